/- The machine of several regexes: step by step; words of bytes. -/
import Derived.Test.YtochckefnjobhaaGreatDoorQg
set_option linter.unusedVariables false
namespace Go.Proofs.YtochckefnjobhaaGreatDoor
open Go Go.RowKit Go.Lib
open X3 (RX Pl)
mutual
def okR : RX → Prop
 | .empty => True
 | .bytes x y z u => okB (.bytes x y z u)
 | .cat l => okL l
 | .alt l => okL l
 | .star r => okR r
def okL : List RX → Prop
 | [] => True
 | r :: l => okR r ∧ okL l
end
mutual
theorem RepS.ok {S : Nat → Prop} {w : World} : ∀ {r : RX} {v : Value}, RepS S w r v → okR r
 | _, _, .empty => trivial
 | _, _, .bytes x y z u hx hy hz hu => ⟨hx, hy, hz, hu⟩
 | _, _, .cat l g cap h hc hn hw h0 => RepLS.ok h
 | _, _, .alt l g cap h hc hn hw h0 => RepLS.ok h
 | _, _, .star r g cap h hc hn hw => (RepLS.ok h).1
theorem RepLS.ok {S : Nat → Prop} {w : World} : ∀ {l : List RX} {g j : Nat}, RepLS S w l g j → okL l
 | _, _, _, .nil _ _ => trivial
 | _, _, _, .cons r l _ _ k x y z u kv h c0 c1 c2 c3 c4 c5 h2 => ⟨RepS.ok h, RepLS.ok h2⟩
end
def okP (P : List Pl) : Prop := ∀ pl ∈ P, okB pl.b
theorem okP.app {P : List Pl} (h : okP P) {pl : Pl} (hb : okB pl.b) : okP (P ++ [pl]) := fun x hx => by
 rcases List.mem_append.1 hx with h1 | h1
 ·exact h x h1
 ·simp at h1; subst h1; exact hb
theorem okP.mod {P : List Pl} (h : okP P) (a : Nat) (f : Pl → Pl) (hf : ∀ pl, (f pl).b = pl.b) : okP (P.modify a f) := fun x hx => by
 obtain ⟨k, hk⟩ := List.mem_iff_getElem?.1 hx
 rw [List.getElem?_modify] at hk
 cases e : P[k]? with
 | none => rw [e] at hk; simp at hk
 | some pl =>
  rw [e] at hk
  have hp := h pl (List.mem_iff_getElem?.2 ⟨k, e⟩)
  simp at hk
  subst hk
  split
  ·rw [hf]; exact hp
  ·exact hp
mutual
theorem lay_ok : ∀ (r : RX) (b : Nat) (P : List Pl), okR r → okP P → okP (X3.layX r b P).2
 | .empty, b, P, h, hP => hP
 | .bytes x y z u, b, P, h, hP => hP.app h
 | .cat l, b, P, h, hP => layCat_ok l b P h hP
 | .alt l, b, P, h, hP => layAlt_ok l P.length b (P ++ [X3.none_]) h (hP.app trivial)
 | .star r, b, P, h, hP => (lay_ok r P.length (P ++ [X3.none_]) h (hP.app trivial)).mod _ _ (fun _ => rfl)
theorem layCat_ok : ∀ (l : List RX) (b : Nat) (P : List Pl), okL l → okP P → okP (X3.layCat l b P).2
 | [], b, P, h, hP => hP
 | r :: l, b, P, h, hP => lay_ok r _ _ h.1 (layCat_ok l b P h.2 hP)
theorem layAlt_ok : ∀ (l : List RX) (a b : Nat) (P : List Pl), okL l → okP P → okP (X3.layAlt l a b P)
 | [], a, b, P, h, hP => hP
 | r :: l, a, b, P, h, hP => layAlt_ok l a b _ h.2 ((lay_ok r b P h.1 hP).mod _ _ (fun _ => rfl))
end
theorem mk_ok : ∀ (l : List RX) (i : Nat) (P : List Pl) (TS : List Nat), okL l → okP P → okP (X4.mk l i P TS).2.1
 | [], i, P, TS, h, hP => hP
 | r :: l, i, P, TS, h, hP => mk_ok l (i + 1) _ _ h.2 (lay_ok r _ _ h.1 (hP.app trivial))
def tagF (l : List RX) (q : Nat) : Nat := (X4.mk l 0 [] []).2.2.getD q 0
structure MkI (l : List RX) (k : Nat) (fs : List Nat) (P : List Pl) (TS : List Nat) : Prop where
 eq : X4.mk l 0 [] [] = (fs ++ (X4.mk (l.drop k) k P TS).1, (X4.mk (l.drop k) k P TS).2)
 tl : TS.length = P.length
 bd : X3.Bd P P.length
 fl : fs.length = k
 fb : ∀ f ∈ fs, f < P.length
 len : P.length ≤ k + X3.sizeL (l.take k)
 mu : X3.muL P ≤ k + 4 * X3.sizeL (l.take k)
theorem MkI.start (l : List RX) : MkI l 0 [] [] [] := ⟨rfl, rfl, (by intro x hx; cases hx), rfl, (by intro f hf; cases hf), Nat.zero_le _, by simp [X3.muL]⟩
theorem MkI.step {l : List RX} {k : Nat} {fs : List Nat} {P : List Pl} {TS : List Nat} (h : MkI l k fs P TS) (hk : k < l.length) :
  MkI l (k + 1) (fs ++ [(X3.layX l[k] P.length (P ++ [X3.none_])).1]) (X3.layX l[k] P.length (P ++ [X3.none_])).2 (TS ++ 2 ^ k :: List.replicate ((X3.layX l[k] P.length (P ++ [X3.none_])).2.length - (P.length + 1)) 0) ∧
  tagF l P.length = 2 ^ k ∧ ∀ q, P.length < q → q < (X3.layX l[k] P.length (P ++ [X3.none_])).2.length → tagF l q = 0 := by
 have hd := List.drop_eq_getElem_cons hk
 have hseg := X4.seg_len l[k] P
 have hb : X3.Bd (P ++ [X3.none_]) (P ++ [X3.none_]).length := (h.bd.mono (by simp)).app (by simp [X3.none_]) (by simp [X3.none_])
 have h1 := X3.lay_sound l[k] P.length (P ++ [X3.none_]) hb (by simp)
 have hl1 := h1.len
 have hm1 := h1.mu
 rw [X3.muL_app] at hm1
 simp only [List.length_append, List.length_singleton] at hl1
 have h0 : X3.none_.also.length = 0 := rfl
 rw [h0] at hm1
 have hst := sizeL_take l k hk
 have hsp := size_pos l[k]
 have e := h.eq
 rw [hd] at e
 have htg := X4.mk_tags (l[k] :: l.drop (k + 1)) k P TS h.tl
 have hTS : (X4.mk l 0 [] []).2.2 = (X4.mk (l[k] :: l.drop (k + 1)) k P TS).2.2 := by rw [e]
 refine ⟨⟨?_, ?_, h1.bd, by simp [h.fl], ?_, by have := h.len; omega, by have := h.mu; omega⟩, ?_, ?_⟩
 ·rw [e]
  simp only [X4.mk, List.append_assoc, List.singleton_append]
 ·have := h.tl; simp; omega
 ·intro f hf
  rcases List.mem_append.1 hf with h2 | h2
  ·have := h.fb f h2; omega
  ·simp at h2; subst h2; exact h1.lt
 ·unfold tagF
  rw [hTS, List.getD_eq_getElem?_getD, htg.2.2.1 0 P.length (by simp [X4.ends])]
  simp
 ·intro q hq1 hq2
  unfold tagF
  rw [hTS, List.getD_eq_getElem?_getD]
  cases ht : (X4.mk (l[k] :: l.drop (k + 1)) k P TS).2.2[q]? with
  | none => rfl
  | some t =>
   rcases htg.2.2.2 q t (by omega) ht with h2 | ⟨j, hj, _⟩
   ·exact h2
   ·simp only [X4.ends] at hj
    cases j with
    | zero => simp at hj; omega
    | succ j =>
     simp only [List.getElem?_cons_succ] at hj
     have := X4.ends_ge _ _ q (List.mem_iff_getElem?.2 ⟨j, hj⟩)
     omega
theorem tagF_lt {l : List RX} (hl : l.length ≤ 60) (q : Nat) : tagF l q < 18446744073709551616 := by
 unfold tagF
 rw [List.getD_eq_getElem?_getD]
 have htg := X4.mk_tags l 0 [] [] rfl
 cases ht : (X4.mk l 0 [] []).2.2[q]? with
 | none => decide
 | some t =>
  rcases htg.2.2.2 q t (Nat.zero_le _) ht with h2 | ⟨j, hj, h3⟩
  ·subst h2; decide
  ·have h4 := (List.getElem?_eq_some_iff.1 hj).1
   rw [X4.ends_len] at h4
   subst h3
   show 2 ^ (0 + j) < 2 ^ 64
   exact Nat.pow_lt_pow_right (by decide) (by omega)
theorem mw_of {l : List RX} (hl : l.length ≤ 60) (ho : okL l) : MW (tagF l) (X4.mk l 0 [] []).2.2 (X4.mk l 0 [] []).2.1 := by
 have htg := X4.mk_tags l 0 [] [] rfl
 refine ⟨htg.1, fun k hk => ?_, fun k => tagF_lt hl k, (X4.mk_sound l 0 [] [] (by intro x hx; cases hx)).1, fun pl hpl => mk_ok l 0 [] [] ho (by intro x hx; cases hx) pl hpl⟩
 unfold tagF
 rw [List.getD_eq_getElem?_getD, List.getElem?_eq_getElem (by rw [htg.1]; exact hk)]
 rfl
end Go.Proofs.YtochckefnjobhaaGreatDoor
namespace Go.Proofs.YtochckefnjobhaaGreatDoor
open Go Go.RowKit Go.Lib
open X3 (RX Pl)
set_option linter.unusedVariables false
set_option linter.unusedSimpArgs false
structure RowR (S : Nat → Prop) (w : World) (v : Value) (l : List RX) : Prop where
 sh : (v = .slice none 0 0 ∧ l = []) ∨ ∃ g cap, v = .slice (some ⟨g, 0, none⟩) l.length cap ∧ S g ∧ g < w.heap.size ∧ l.length ≤ cap ∧ RepLS S w l g 0
theorem RowR.kept {S : Nat → Prop} {w w' : World} {v : Value} {l : List RX} (h : RowR S w v l) (hk : KeepS S w w') : RowR S w' v l := ⟨h.sh.imp id fun ⟨g, cap, h1, h2, h3, h4, h5⟩ => ⟨g, cap, h1, h2, Nat.lt_of_lt_of_le h3 hk.1, h4, h5.kept hk h2 h3⟩⟩
theorem RowR.shape {S : Nat → Prop} {w : World} {v : Value} {l : List RX} (h : RowR S w v l) : ∃ vo vc, v = .slice vo l.length vc := by
 rcases h.sh with ⟨rfl, rfl⟩ | ⟨g, cap, rfl, _⟩
 ·exact ⟨none, 0, rfl⟩
 ·exact ⟨_, _, rfl⟩
theorem RowR.ok {S : Nat → Prop} {w : World} {v : Value} {l : List RX} (h : RowR S w v l) : okL l := by
 rcases h.sh with ⟨rfl, rfl⟩ | ⟨g, cap, rfl, _, _, _, h5⟩
 ·exact trivial
 ·exact h5.ok
theorem RowR.at_ {S : Nat → Prop} {w : World} {vo : Option Addr} {n vc : Nat} {l : List RX} (h : RowR S w (.slice vo n vc) l) (k : Nat) (hk : k < l.length) : ∃ (g : Nat) (kd x y z u : Int) (ko : Option Addr) (kn kc : Nat), vo = some ⟨g, 0, none⟩ ∧ RepS S w l[k] (nodeV kd x y z u (.slice ko kn kc)) ∧
  w.cell? ⟨g, k * 6, none⟩ = some (.int .i64 kd) ∧ w.cell? ⟨g, k * 6 + 1, none⟩ = some (.int .u64 x) ∧ w.cell? ⟨g, k * 6 + 2, none⟩ = some (.int .u64 y) ∧
  w.cell? ⟨g, k * 6 + 3, none⟩ = some (.int .u64 z) ∧ w.cell? ⟨g, k * 6 + 4, none⟩ = some (.int .u64 u) ∧ w.cell? ⟨g, k * 6 + 5, none⟩ = some (.slice ko kn kc) := by
 rcases h.sh with ⟨_, rfl⟩ | ⟨g, cap, hv, _, _, _, h5⟩
 ·simp at hk
 ·injection hv with h1 h2 h3
  obtain ⟨kd, x, y, z, u, kv, hR, c0, c1, c2, c3, c4, c5⟩ := h5.at_ k hk
  obtain ⟨ko, kn, kc, rfl⟩ := hR.slice
  rw [Nat.zero_add] at c0 c1 c2 c3 c4 c5
  exact ⟨g, kd, x, y, z, u, ko, kn, kc, h1, hR, c0, c1, c2, c3, c4, c5⟩
def many (l : List RX) : Prop := 60 < l.length ∨ 3000 < X3.sizeL l
abbrev noM : Ending := .returned (.tuple #[.pointer none, .int .i64 4])
def BuildP (l : List RX) (w : World) (e : Ending) (w' : World) : Prop :=
 Below w.heap.size w w' ∧ ((many l ∧ e = noM) ∨ (¬ many l ∧ ∃ m T pv AS bv A0, e = .returned (.tuple #[.pointer (some ⟨m, 0, none⟩), .int .i64 0]) ∧ Nfa l w.heap.size m w' T pv AS bv A0))
theorem MRep.setBegin {T : Nat → Nat} {B m : Nat} {w : World} {pv : Value} {AS : List Value} {P : List Pl} (h : MRep T B m w pv AS P) (rv : Value) : Mach T B m (w.setCell ⟨m, 1, none⟩ rv) pv AS P rv := by
 have hx : ∀ g, g ≠ m → (w.setCell ⟨m, 1, none⟩ rv).heap[g]? = w.heap[g]? := fun g hg => Below.heap_setCell w ⟨m, 1, none⟩ rv g hg
 refine ⟨?_, h.mB, owns_kept h.row fun g hg => hx g (fun e => h.apm (by rw [hg, e])), h.lenA, fun k pl av hp ha => owns_kept (h.also k pl av hp ha) fun g hg => hx g (h.ap1 k av g ha hg).1⟩
 rw [heap_setCell_same w m 1 _ 156 rv h.box]
 rfl
set_option maxRecDepth 100000 in
set_option maxHeartbeats 8000000 in
theorem build_any (S : Nat → Prop) (l : List RX) (w : World) (v : Value) (h : RowR S w v l) (hS : ∀ g, S g → g < w.heap.size) (hN : ∀ k (hk : k < l.length), l[k].size ≤ 1000000) (hll : l.length ≤ 1000000) :
  Calls Tryz.prog 73 #[v] w (BuildP l w) := by
 obtain ⟨vo, vc, rfl⟩ := h.shape
 have HR := hid h
 have HN := hid hN
 have HS := hid hS
 clear h hN hS
 by_cases h60 : 60 < l.length
 ·have h1 : (60 : Int) < (l.length : Int) := by omega
  have hmany : many l := .inl h60
  go_enter Tryz.func73, Tryz.ntmps73
  go_wp2_with fail
  exact bodyPost_ret (v := .tuple #[.pointer none, .int .i64 4]) (by simp [results, Tryz.results73, go_sem]) rfl ⟨Below.refl _ _, .inl ⟨hmany, rfl⟩⟩
 ·have h1 : ¬ (60 : Int) < (l.length : Int) := by omega
  go_enter Tryz.func73, Tryz.ntmps73
  go_wp2_with fail
  go_loopw [4, 17] (fun t4 t17 wr => ∃ k left : Nat, k ≤ l.length ∧ t17 = .int .i64 (k : Int) ∧ t4 = .int .i64 (left : Int) ∧ Hid (X3.sizeL (l.take k) + left = 3000) ∧ Below w.heap.size w wr) (fun _ t17 _ => l.length - (RowKit.intOf t17).toNat)
  case atStart => exact ⟨0, 3000, Nat.zero_le _, rfl, rfl, hid (by simp [X3.sizeL]), Below.refl _ _⟩
  case round =>
   obtain ⟨k, left, hk, rfl, rfl, HL, hB⟩ := hrel
   have hlb : left ≤ 3000 := by have := HL.out; omega
   by_cases hlt : k < l.length
   ·obtain ⟨g, kd', x', y', z', u', ko, kn, kc, rfl, hR, c0, c1, c2, c3, c4, c5⟩ := (HR.out.kept (keepS_below hB)).at_ k hlt
    have h2 : (k : Int) < (l.length : Int) := by omega
    have h3 : (0 : Int) ≤ (k : Int) := by omega
    obtain ⟨wa, ea⟩ : ∃ wa, wr.alloc (.cells #[.int .i64 kd', .int .u64 x', .int .u64 y', .int .u64 z', .int .u64 u', .slice ko kn kc] 46) = wa := ⟨_, rfl⟩
    have hba : Below wr.heap.size wr wa := by rw [← ea]; exact (Below.refl _ _).alloc (Nat.le_refl _) _
    have hna : wa.heap[wr.heap.size]? = some (.cells #[.int .i64 kd', .int .u64 x', .int .u64 y', .int .u64 z', .int .u64 u', .slice ko kn kc] 46 (0, 0)) := by rw [← ea]; exact new_block _ _
    obtain ⟨q0, q1, q2, q3, q4, q5⟩ := cells6 hna
    have hst := sizeL_take l k hlt
    have hle := sizeL_le l (k + 1)
    have KI := hid (upto_any S l[k].size left (by omega) wa l[k] _ (Nat.le_refl _) (by have := HN.out k hlt; omega) (hR.kept (keepS_below hba)))
    have HB := hid (hB.trans (hba.mono hB.size))
    have hsz := (hB.trans (hba.mono hB.size)).size
    clear hR hna hba hB
    by_cases hgt : left < l[k].size
    ·have hmany : many l := .inr (by have := HL.out; omega)
     have hmin : min l[k].size (left + 1) = left + 1 := by omega
     rw [hmin] at KI
     have e1 : (left : Int) - ((left + 1 : Nat) : Int) = -1 := by omega
     have e2 : (left : Int) - ((left : Int) + 1) = -1 := by omega
     clear hmin hst
     go_wp2_with fail
     refine KI.out.mono ?_
     rintro e w2 ⟨rfl, hb2⟩
     have HB2 := hid hb2
     clear hb2
     go_wp2_with fail
     exact bodyPost_ret (v := .tuple #[.pointer none, .int .i64 4]) (by simp [results, Tryz.results73, go_sem]) rfl ⟨HB.out.trans (HB2.out.mono hsz), .inl ⟨hmany, rfl⟩⟩
    ·have hmin : min l[k].size (left + 1) = l[k].size := by omega
     rw [hmin] at KI
     have HLN : Hid (X3.sizeL (l.take (k + 1)) + (left - l[k].size) = 3000) := hid (by have := HL.out; omega)
     have e1 : (left : Int) - ((l[k].size : Nat) : Int) = ((left - l[k].size : Nat) : Int) := by omega
     have e2 : (0 : Int) ≤ ((left - l[k].size : Nat) : Int) := by omega
     have e3 : ((left - l[k].size : Nat) : Int) < 9223372036854775808 := by omega
     have e4 : decide (((left - l[k].size : Nat) : Int) < 0) = false := by simp
     clear hmin hst hgt
     generalize left - l[k].size = Q at *
     generalize l[k].size = M at *
     go_wp2_with fail
     refine KI.out.mono ?_
     rintro e w2 ⟨rfl, hb2⟩
     have HB2 := hid hb2
     clear hb2
     go_wp2_with fail
     refine ⟨⟨k + 1, Q, by omega, rfl, rfl, HLN, HB.out.trans (HB2.out.mono hsz)⟩, ?_⟩
     show l.length - ((k : Int) + 1).toNat < l.length - ((k : Int)).toNat
     omega
   ·have h2 : ¬ (k : Int) < (l.length : Int) := by omega
    obtain rfl : k = l.length := by omega
    have hfew : X3.sizeL l ≤ 3000 := by have := HL.out; rw [List.take_length] at this; omega
    have HB := hid hB
    have hsz := hB.size
    obtain ⟨w3, e3⟩ : ∃ w3, wr.alloc (.cells #[.slice none 0 0, .slice none 0 0] 156) = w3 := ⟨_, rfl⟩
    have hb3 : Below wr.heap.size wr w3 := by rw [← e3]; exact (Below.refl _ _).alloc (Nat.le_refl _) _
    have hn3 : w3.heap[wr.heap.size]? = some (.cells #[.slice none 0 0, .slice none 0 0] 156 (0, 0)) := by rw [← e3]; exact new_block _ _
    have hs3 : w3.heap.size = wr.heap.size + 1 := by rw [← e3]; simp
    have HM3 : Hid (MRep (tagF l) w.heap.size wr.heap.size w3 (.slice none 0 0) [] []) := hid
     { box := hn3
       mB := hsz
       row := ⟨rfl, .inl ⟨rfl, rfl⟩⟩
       lenA := rfl
       also := by intro k pl av hp; cases hp
       ap1 := by intro k av g hp; cases hp
       ap2 := by intro i j a b g hp; cases hp
       apm := by intro h; cases h }
    have HB3 := hid (hB.trans (hb3.mono hsz))
    have HS3 := hid hs3
    have hw3 : w.heap.size ≤ w3.heap.size := by omega
    clear hB hb3 hn3 hs3
    obtain ⟨mb, hmbe⟩ : ∃ mb, wr.heap.size = mb := ⟨_, rfl⟩
    rw [hmbe] at HM3 HS3 hsz
    go_wp2_with fail
    clear hmbe e3
    have hmb : mb < w3.heap.size := by have := HS3.out; omega
    go_loopw [8, 33] (fun t8 t33 wr => ∃ (k : Nat) (fs : List Nat) (P : List Pl) (TS : List Nat) (pv : Value) (AS : List Value), k ≤ l.length ∧ t33 = .int .i64 (k : Int) ∧ Hid (MkI l k fs P TS) ∧ Hid (MRep (tagF l) w.heap.size mb wr pv AS P) ∧ Hid (wr.ownsRow w3.heap.size 3 1 t8 fs.length (ints fs)) ∧ Hid (∀ g, Own mb pv AS g → t8.ownBlock ≠ some g) ∧ Below w.heap.size w wr ∧ w3.heap.size ≤ wr.heap.size) (fun _ t33 _ => l.length - (RowKit.intOf t33).toNat)
    case atStart => exact ⟨0, [], [], [], _, _, Nat.zero_le _, rfl, hid (MkI.start l), HM3, hid ⟨rfl, .inl ⟨rfl, rfl⟩⟩, hid (fun g _ h => by cases h), HB3.out, Nat.le_refl _⟩
    case round =>
     obtain ⟨k, fs, P, TS, pv, AS, hk, rfl, HI, HM, HF, HD, hB, hsw⟩ := hrel
     by_cases hlt : k < l.length
     ·obtain ⟨g, kd', x', y', z', u', ko, kn, kc, rfl, hR, c0, c1, c2, c3, c4, c5⟩ := (HR.out.kept (keepS_below hB)).at_ k hlt
      have h2 : (k : Int) < (l.length : Int) := by omega
      have h3 : (0 : Int) ≤ (k : Int) := by omega
      obtain ⟨wa, ea⟩ : ∃ wa, wr.alloc (.cells #[.int .i64 kd', .int .u64 x', .int .u64 y', .int .u64 z', .int .u64 u', .slice ko kn kc] 46) = wa := ⟨_, rfl⟩
      have hba : Below wr.heap.size wr wa := by rw [← ea]; exact (Below.refl _ _).alloc (Nat.le_refl _) _
      have hna : wa.heap[wr.heap.size]? = some (.cells #[.int .i64 kd', .int .u64 x', .int .u64 y', .int .u64 z', .int .u64 u', .slice ko kn kc] 46 (0, 0)) := by rw [← ea]; exact new_block _ _
      have hsa : wa.heap.size = wr.heap.size + 1 := by rw [← ea]; simp
      obtain ⟨wb, eb⟩ : ∃ wb, wa.alloc (.cells #[.int .i64 (k : Int)] 3) = wb := ⟨_, rfl⟩
      have hbb : Below wa.heap.size wa wb := by rw [← eb]; exact (Below.refl _ _).alloc (Nat.le_refl _) _
      have hnb : wb.heap[wa.heap.size]? = some (.cells #[.int .i64 (k : Int)] 3 (0, 0)) := by rw [← eb]; exact new_block _ _
      have hsb : wb.heap.size = wa.heap.size + 1 := by rw [← eb]; simp
      have hBb : Below wr.heap.size wr wb := hba.trans (hbb.mono (by omega))
      have KO := hid (of_any (w := wb) (B := 0) (v := .slice (some ⟨wa.heap.size, 0, none⟩) 1 1) (l := [(k : Int)]) ⟨rfl, .inr ⟨wa.heap.size, 1, _, rfl, Nat.zero_le _, hnb, Nat.le_refl _, by unfold maxLen; omega, rfl, rfl⟩⟩ (by show 1 < 9223372036854775808; decide))
      have hof : ofZ [(k : Int)] = 2 ^ k := by
       have : (0 ≤ (k : Int) ∧ (k : Int) < 64) := by omega
       simp [ofZ, bitN, this]
      rw [hof] at KO
      have hst := sizeL_take l k hlt
      have hle := sizeL_le l (k + 1)
      have hPl := HI.out.len
      have hmu := HI.out.mu
      have hstep := HI.out.step hlt
      have hMb := HM.out.below hBb
      have KA := hid (add_any (tagF l) w.heap.size mb wb pv AS P .empty 0 (2 ^ k) hstep.2.1.symm hMb (by omega) (by have := hB.size; omega))
      have HST := hid hstep
      have HMB := hid hMb
      have HBB := hid hBb
      have hnab := (hbb.block wr.heap.size (by omega)).trans hna
      have HA := hid (And.intro hnab (And.intro hsa hsb))
      have HB := hid hB
      have hszr := hB.size
      have HRS := hid hR
      have hcub : l[k].size * l[k].size * l[k].size ≤ 3000 * 3000 * 3000 := Nat.mul_le_mul (Nat.mul_le_mul (by omega) (by omega)) (by omega)
      have HN2 := hid hsz
      clear hna hnab hnb hba hbb hof hstep hMb hBb hB hR hsa hsb
      go_wp2_with fail
      refine KO.out.mono ?_
      rintro e w9 ⟨rfl, rfl⟩
      go_wp2_with fail
      refine KA.out.mono ?_
      rintro e w4 ⟨pv1, rfl, hM4, hF4⟩
      have hs4 := hF4.size
      have hOw := fun (g : Nat) (ho : Own mb pv AS g) => HM.out.own_ge ho
      have hsza := HA.out.2.1
      have hszb := HA.out.2.2
      have hbx := (hF4.same wr.heap.size (by omega) (fun ho => by have := (hOw _ ho).2; omega)).trans HA.out.1
      obtain ⟨q0, q1, q2, q3, q4, q5⟩ := cells6 hbx
      have hB4 : Below w.heap.size wr w4 := (HBB.out.mono hszr).trans (hF4.below HMB.out (by omega))
      have hR4 := HRS.out.kept (keepS_B HS.out hB4)
      have hrow4 : w4.ownsRow w3.heap.size 3 1 u8 fs.length (ints fs) := owns_kept HF.out fun g hg => (hF4.same g (by have := (owns_lt HF.out g hg).2; omega) (fun ho => HD.out g ho hg)).trans (HBB.out.block g (owns_lt HF.out g hg).2)
      have hN4 : ∀ g, Own mb pv1 (AS ++ [.slice none 0 0]) g → u8.ownBlock ≠ some g := fun g ho e => by
       rcases hF4.own g ho with h | h
       ·exact HD.out g h e
       ·have := (owns_lt HF.out g e).2; omega
      have hbd := HI.out.bd
      have hP1 : (P ++ [X3.none_]).length = P.length + 1 := by simp
      have hmu1 : X3.muL (P ++ [X3.none_]) = X3.muL P + 1 := by rw [X3.muL_app]; rfl
      have KL := hid (lay_any S w.heap.size mb HS.out l[k] (HN.out k hlt) (tagF l) w4 _ P.length pv1 (AS ++ [.slice none 0 0]) (P ++ [X3.none_]) hR4 hM4 (by rw [hP1]; omega) (by rw [hP1]; exact (hbd.mono (by omega)).app (by simp [X3.none_]) (by simp [X3.none_])) (by rw [hP1]; omega) (by rw [hmu1]; omega) (by omega) (fun j h1 h2 => HST.out.2.2 j (by rw [hP1] at h1; omega) h2))
      have HM4 := hid hM4
      have HF4 := hid hF4
      have HB4 := hid hB4
      have hr4 := hB4.size
      have HR4 := hid hrow4
      have HN4 := hid hN4
      have hF8 := (fun g hg => (owns_lt HF.out g hg).2 : ∀ g, u8.ownBlock = some g → g < wr.heap.size)
      have HF8 := hid hF8
      have HOW := hid hOw
      clear hM4 hF4 hOw hsza hszb hbx hB4 hR4 hrow4 hN4 hbd hP1 hmu1 hF8 ea eb c0 c1 c2 c3 c4 c5
      go_wp2_with fail
      refine KL.out.mono ?_
      rintro e w5 ⟨pv2, AS2, rfl, hM5, hF5⟩
      have hs5 := hF5.size
      obtain ⟨w6, e6⟩ : ∃ w6, w5.alloc (.cells #[.int .i64 ((X3.layX l[k] P.length (P ++ [X3.none_])).1 : Int)] 3) = w6 := ⟨_, rfl⟩
      have hb6 : Below w5.heap.size w5 w6 := by rw [← e6]; exact (Below.refl _ _).alloc (Nat.le_refl _) _
      have hn6 : w6.heap[w5.heap.size]? = some (.cells #[.int .i64 ((X3.layX l[k] P.length (P ++ [X3.none_])).1 : Int)] 3 (0, 0)) := by rw [← e6]; exact new_block _ _
      have hs6 : w5.heap.size < w6.heap.size := by rw [← e6]; simp
      have hrow5 : w5.ownsRow w3.heap.size 3 1 u8 fs.length (ints fs) := owns_kept HR4.out fun g hg => hF5.same g (owns_lt HR4.out g hg).2 (fun ho => HN4.out g ho hg)
      have hrow6 : w6.ownsRow w3.heap.size 3 1 u8 fs.length (ints fs) := owns_kept hrow5 fun g hg => hb6.block g (owns_lt hrow5 g hg).2
      have hB5 : Below w.heap.size w4 w5 := hF5.below HM4.out (by omega)
      obtain ⟨i0, hi, hq0, hq1, hq2⟩ := info_parts info3
      have HM5 := hid hM5
      have HF5 := hid hF5
      have HB6 := hid hb6
      have HR6 := hid hrow6
      have HB5 := hid hB5
      have hfl := HI.out.fl
      have HFL := hid hfl
      have hfl2 : fs.length ≤ 60 := by omega
      have hb36 : w3.heap.size ≤ w6.heap.size := by omega
      clear hM5 hF5 hb6 hrow5 hrow6 hB5 hfl q0 q1 q2 q3 q4 q5
      go_wp2_with (at_builtin; go_loud (refine wpList_append_own_at _ rfl (.tmp 44) (.tmp 49) 87 rfl w3.heap.size 3 i0 (.int .i64 0) 1 8 Tryz.underlying87 hi hq0 hq1 hq2 rfl (by decide) u8 fs.length (ints fs) rfl HR6.out ⟨w5.heap.size, 0, none⟩ 1 1 [.int .i64 ((X3.layX l[k] P.length (P ++ [X3.none_])).1 : Int)] rfl rfl ?k1 ?k2 ?k3 ?k4 ?k5 ?_))
      case k1 =>
       intro j v hj
       have := Lib.cell_of_heap hn6 j
       first | rw [show (⟨w5.heap.size, 0, none⟩ : Addr).add j = ⟨w5.heap.size, j, none⟩ by simp [Addr.add]; omega] | skip
       rw [this, ← hj]
       simp
      case k2 => first | (intro v hv; simp at hv; rcases hv with rfl; rfl) | rfl | trace_state
      case k3 => unfold maxLen; omega
      case k4 => omega
      try (case k5 => exact hb36)
      intro v7 w7 hown7 hgrow7 hnil7 hat7
      have hr7 : Hid (w7.ownsRow w3.heap.size 3 1 v7 (fs ++ [(X3.layX l[k] P.length (P ++ [X3.none_])).1]).length (ints (fs ++ [(X3.layX l[k] P.length (P ++ [X3.none_])).1]))) := hid (by rw [List.length_append]; unfold ints; rw [List.map_append]; exact hown7)
      have hO5 : ∀ g, Own mb pv2 AS2 g → u8.ownBlock ≠ some g := fun g ho e => by
       rcases HF5.out.own g ho with h | h
       ·exact HN4.out g h e
       ·have := HF8.out g e; have := HBB.out.size; omega
      have hM7 : Hid (MRep (tagF l) w.heap.size mb w7 pv2 AS2 (X3.layX l[k] P.length (P ++ [X3.none_])).2) := hid ((HM5.out.below HB6.out).ownKept fun g ho => hgrow7.block g (by have := (HM5.out.own_ge ho).2; omega) (fun e => hO5 g ho e.symm))
      have hD7 : Hid (∀ g, Own mb pv2 AS2 g → v7.ownBlock ≠ some g) := hid fun g ho e => by
       rcases hat7 with h | h
       ·rw [h] at e; exact hO5 g ho e
       ·rw [h] at e; have := Option.some.inj e; have := (HM5.out.own_ge ho).2; omega
      have hB7 : Below w.heap.size w6 w7 := (Below.refl w.heap.size w6).grown hgrow7 (by omega) (fun q hq => by have := (owns_lt HR6.out q hq).1; omega)
      have HB7 := hid hB7
      have hs7 := hgrow7.size
      clear hown7 hgrow7 hnil7 hat7 hO5 hB7 hn6 e6
      go_wp2_with fail
      refine ⟨⟨k + 1, _, _, _, _, _, by omega, rfl, hid HST.out.1, hM7, hr7, hD7, HB.out.trans (HB4.out.trans (HB5.out.trans ((HB6.out.mono (by omega)).trans HB7.out))), by omega⟩, ?_⟩
      show l.length - ((k : Int) + 1).toNat < l.length - ((k : Int)).toNat
      omega
     ·have h2 : ¬ (k : Int) < (l.length : Int) := by omega
      obtain rfl : k = l.length := by omega
      have he := HI.out.eq
      rw [List.drop_length] at he
      have hE1 : (X4.mk l 0 [] []).1 = fs := by rw [he]; simp [X4.mk]
      have hE2 : (X4.mk l 0 [] []).2.1 = P := by rw [he]; rfl
      have hE3 : (X4.mk l 0 [] []).2.2 = TS := by rw [he]; rfl
      have hMW := mw_of (l := l) (by omega) HR.out.ok
      have hln := HI.out.len
      have hmu := HI.out.mu
      have hfl := HI.out.fl
      rw [List.take_length] at hln hmu
      have hMW2 : MW (tagF l) TS P := by rw [← hE2, ← hE3]; exact hMW
      have KC := hid (closed_any (tagF l) TS w.heap.size mb w3.heap.size wr pv AS P _ u8 fs HM.out.mach hMW2.tl hMW2.ts hMW2.tb hMW2.bd HF.out hsw (fun f hf => HI.out.fb f hf) HD.out (by omega) (by omega))
      have HE := hid (And.intro hE1 (And.intro hE2 hE3))
      have HB := hid hB
      have HMW := hid hMW
      have HMU : Hid (X3.muL P ≤ 100000) := hid (by omega)
      clear he hE1 hE2 hE3 hMW hMW2 hln hmu hfl hB
      go_wp2_with fail
      refine KC.out.mono ?_
      rintro e w9 ⟨rv, A, rfl, hC, hr9, hn9, hg9⟩
      have hs9 := hg9.size
      have hM9 : MRep (tagF l) w.heap.size mb w9 pv AS P := HM.out.ownKept fun g ho => hg9.block g (HM.out.own_ge ho).2 (fun e => HD.out g ho e.symm)
      have hb9 : w9.cell? ⟨mb, 1, none⟩ = some (.slice none 0 0) := by rw [Lib.cell_of_heap hM9.box]; rfl
      have hf9 : w9.frozen? ⟨mb, 1, none⟩ = false := Lib.frozen_of_heap hM9.box 1
      have hmr : mb < wr.heap.size := (HM.out.own_ge (.inl rfl)).2
      have HM9 := hid hM9
      have HC9 := hid hC
      have HR9 := hid hr9
      have HN9 := hid hn9
      have HG9 := hid hg9
      obtain ⟨ro, rn, rc, hrv⟩ : ∃ ro rn rc, rv = .slice ro rn rc := by
       rcases hr9.2 with ⟨h, _⟩ | ⟨_, _, _, h, _⟩
       ·exact ⟨_, _, _, h⟩
       ·exact ⟨_, _, _, h⟩
      subst hrv
      clear hM9 hC hr9 hn9 hg9
      go_wp2_with fail
      have hNfa : Nfa l w.heap.size mb (w9.setCell ⟨mb, 1, none⟩ (.slice ro rn rc)) (tagF l) pv AS (.slice ro rn rc) A := by
       have hx : ∀ g, g ≠ mb → (w9.setCell ⟨mb, 1, none⟩ (.slice ro rn rc)).heap[g]? = w9.heap[g]? := fun g hg => Below.heap_setCell w9 ⟨mb, 1, none⟩ _ g hg
       have hk := owns_kept HR9.out fun g hg => hx g (by have := (owns_lt HR9.out g hg).1; omega)
       refine ⟨by rw [HE.out.2.1]; exact HM9.out.setBegin _, HMW.out, ⟨hk.1, hk.2.imp id (fun ⟨g, cap, cur, h1, h2, h3⟩ => ⟨g, cap, cur, h1, by have := HB.out.size; omega, h3⟩)⟩, HN9.out, ?_, by rw [HE.out.2.1]; exact HMU.out⟩
       rw [HE.out.1, HE.out.2.1, HE.out.2.2]
       exact X4.At.start HC9.out
      have hBe : Below w.heap.size w (w9.setCell ⟨mb, 1, none⟩ (.slice ro rn rc)) := by
       have h1 : Below w.heap.size wr w9 := (Below.refl w.heap.size wr).grown HG9.out HB.out.size (fun q hq => by have := (owns_lt HF.out q hq).1; omega)
       exact (HB.out.trans h1).setCell (p := ⟨mb, 1, none⟩) HM.out.mB _
      exact bodyPost_ret (v := .tuple #[.pointer (some ⟨mb, 0, none⟩), .int .i64 0]) (by simp [results, Tryz.results73, go_sem]) rfl ⟨hBe, .inr ⟨fun h => by rcases h with h | h <;> omega, mb, _, _, _, _, A, rfl, hNfa⟩⟩
end Go.Proofs.YtochckefnjobhaaGreatDoor
