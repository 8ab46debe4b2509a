/- nfa's machine: closed, its walk. -/
import Derived.Test.YtochckefnjobhaaGreatDoorQb
namespace Go.Proofs.YtochckefnjobhaaGreatDoor
open Go Go.RowKit Go.Lib
open X3 (RX Pl)
set_option linter.unusedVariables false
set_option linter.unusedSimpArgs false
theorem nil_or_snoc {α : Type} (l : List α) : l = [] ∨ ∃ L b, l = L ++ [b] := by
 rcases List.eq_nil_or_concat l with h | ⟨L, b, h⟩
 ·exact .inl h
 ·exact .inr ⟨L, b, by rw [h, List.concat_eq_append]⟩
abbrev ints (A : List Nat) : List Value := A.map fun (q : Nat) => Value.int .i64 (q : Int)
structure CM (Bf : Nat) (v : Value) (w : World) (F : List Nat) (Sn : List Bool) (A : List Nat) (t1 t5 : Value) (wr : World) : Prop where
 f : wr.ownsRow Bf 3 1 t1 F.length (ints F)
 fb : t1.ownBlock = v.ownBlock ∨ ∃ g, t1.ownBlock = some g ∧ w.heap.size + 1 ≤ g
 l : wr.ownsRow (w.heap.size + 1) 3 1 t5 A.length (ints A)
 ln : A = [] → t5 = .slice none 0 0
 ap : ∀ g, t1.ownBlock = some g → t5.ownBlock ≠ some g
 seen : wr.heap[w.heap.size]? = some (.cells (Sn.map Value.bool).toArray 4 (0, 0))
 fr : w.grownBy wr v.ownBlock
 sz : w.heap.size + 1 ≤ wr.heap.size
 vl : ∀ g, v.ownBlock = some g → g < w.heap.size
theorem owns_init {w : World} {B g cap : Nat} {A : List Nat} {a : Nat} (h : w.ownsRow B 3 1 (.slice (some ⟨g, 0, none⟩) (A ++ [a]).length cap) (A ++ [a]).length (ints (A ++ [a]))) : w.ownsRow B 3 1 (.slice (some ⟨g, 0, none⟩) A.length cap) A.length (ints A) := by
 refine ⟨by simp, ?_⟩
 rcases h.2 with ⟨h', _⟩ | ⟨g', cap', cur, h', hB, hg, hc, hm, hs, ht⟩
 ·cases h'
 ·injection h' with h1 h2 h3
  have h1' : g = g' := by injection h1 with h1; injection h1
  subst h1' h3
  refine .inr ⟨g, cap, cur, rfl, hB, hg, by simp at hc; omega, hm, hs, ?_⟩
  have := congrArg (List.take (A.length * 1)) ht
  rw [List.take_take] at this
  simp at this
  rw [Nat.mul_one]
  simpa using this
theorem owns_lt {w : World} {B : Nat} {e : TypeId} {sz : Nat} {v : Value} {n : Nat} {xs : List Value} (h : w.ownsRow B e sz v n xs) (g : Nat) (hg : v.ownBlock = some g) : B ≤ g ∧ g < w.heap.size := by
 rcases h.2 with ⟨rfl, _⟩ | ⟨g', cap, cur, rfl, hB, hh, _⟩
 ·cases hg
 ·injection hg with hg; subst hg; exact ⟨hB, (Array.getElem?_eq_some_iff.1 hh).1⟩
theorem CM.fne {Bf : Nat} {v : Value} {w : World} {F : List Nat} {Sn : List Bool} {A : List Nat} {t1 t5 : Value} {wr : World} (h : CM Bf v w F Sn A t1 t5 wr) : t1.ownBlock ≠ some w.heap.size := fun e => by
 rcases h.fb with h1 | ⟨g, h1, h2⟩
 ·rw [h1] at e; have := h.vl _ e; omega
 ·rw [h1] at e; injection e with e; omega
theorem CM.pop {Bf : Nat} {v : Value} {w : World} {F : List Nat} {n : Nat} {Sn : List Bool} {A : List Nat} {g cap : Nat} {t5 : Value} {wr : World} (h : CM Bf v w (F ++ [n]) Sn A (.slice (some ⟨g, 0, none⟩) (F ++ [n]).length cap) t5 wr) : CM Bf v w F Sn A (.slice (some ⟨g, 0, none⟩) F.length cap) t5 wr :=
 ⟨owns_init h.f, h.fb, h.l, h.ln, h.ap, h.seen, h.fr, h.sz, h.vl⟩
theorem CM.mark {Bf : Nat} {v : Value} {w : World} {F : List Nat} {n : Nat} {Sn : List Bool} {A : List Nat} {t1 t5 : Value} {wr : World} (h : CM Bf v w F Sn A t1 t5 wr) {b : Bool} (hn : Sn[n]? = some b) : CM Bf v w F (Sn.set n true) A t1 t5 (wr.setCell ⟨w.heap.size, n, none⟩ (.bool true)) := by
 have hx : ∀ g, g ≠ w.heap.size → (wr.setCell ⟨w.heap.size, n, none⟩ (.bool true)).heap[g]? = wr.heap[g]? := fun g hg => Below.heap_setCell wr ⟨w.heap.size, n, none⟩ _ g hg
 refine ⟨owns_kept h.f fun g hg => hx g (fun e => h.fne (by rw [hg, e])), h.fb, owns_kept h.l fun g hg => hx g (by have := (owns_lt h.l g hg).1; omega), h.ln, h.ap, (bools_cell h.seen hn).2.2, ⟨h.fr.os, h.fr.tape, h.fr.output, by simpa using h.fr.size, fun k hk hne => (hx k (by omega)).trans (h.fr.block k hk hne)⟩, by simpa using h.sz, h.vl⟩
theorem CM.below {Bf : Nat} {v : Value} {w : World} {F : List Nat} {Sn : List Bool} {A : List Nat} {t1 t5 : Value} {wr w' : World} (h : CM Bf v w F Sn A t1 t5 wr) (hb : Below wr.heap.size wr w') : CM Bf v w F Sn A t1 t5 w' :=
 ⟨owns_kept h.f fun g hg => hb.block g (owns_lt h.f g hg).2, h.fb, owns_kept h.l fun g hg => hb.block g (owns_lt h.l g hg).2, h.ln, h.ap, (hb.block _ (by have := h.sz; omega)).trans h.seen,
  ⟨hb.os.trans h.fr.os, hb.tape.trans h.fr.tape, hb.output.trans h.fr.output, Nat.le_trans h.fr.size hb.size, fun k hk hne => (hb.block k (Nat.lt_of_lt_of_le hk h.fr.size)).trans (h.fr.block k hk hne)⟩, Nat.le_trans h.sz hb.size, h.vl⟩
theorem CM.grownF {Bf : Nat} {v : Value} {w : World} {F F' : List Nat} {Sn : List Bool} {A : List Nat} {t1 t1' t5 : Value} {wr w' : World} (h : CM Bf v w F Sn A t1 t5 wr) (ho : w'.ownsRow Bf 3 1 t1' F'.length (ints F')) (hg : wr.grownBy w' t1.ownBlock) (hat : t1'.ownBlock = t1.ownBlock ∨ t1'.ownBlock = some wr.heap.size) : CM Bf v w F' Sn A t1' t5 w' := by
 have hsz := h.sz
 refine ⟨ho, ?_, owns_kept h.l fun g hgg => hg.block g (owns_lt h.l g hgg).2 (fun e => h.ap g e.symm hgg), h.ln, ?_, (hg.block _ (by omega) (fun e => h.fne e.symm)).trans h.seen, h.fr.andThen hg ?_, Nat.le_trans h.sz hg.size, h.vl⟩
 ·rcases hat with h1 | h1
  ·rw [h1]; exact h.fb
  ·exact .inr ⟨_, h1, by omega⟩
 ·intro g hgg e
  rcases hat with h1 | h1
  ·rw [h1] at hgg; exact h.ap g hgg e
  ·rw [h1] at hgg; injection hgg with hgg; have := (owns_lt h.l g e).2; omega
 ·intro j hj
  rcases h.fb with h1 | ⟨g, h1, h2⟩
  ·exact .inr (by rw [← h1]; exact hj)
  ·rw [h1] at hj; injection hj with hj; exact .inl (by omega)
theorem CM.grownL {Bf : Nat} {v : Value} {w : World} {F : List Nat} {Sn : List Bool} {A A' : List Nat} {t1 t5 t5' : Value} {wr w' : World} (h : CM Bf v w F Sn A t1 t5 wr) (ho : w'.ownsRow (w.heap.size + 1) 3 1 t5' A'.length (ints A')) (hA : A' ≠ []) (hg : wr.grownBy w' t5.ownBlock) (hat : t5'.ownBlock = t5.ownBlock ∨ t5'.ownBlock = some wr.heap.size) : CM Bf v w F Sn A' t1 t5' w' := by
 have hsz := h.sz
 refine ⟨owns_kept h.f fun g hgg => hg.block g (owns_lt h.f g hgg).2 (fun e => h.ap g hgg e.symm), h.fb, ho, fun e => absurd e hA, ?_, (hg.block _ (by omega) (fun e => by have := (owns_lt h.l _ e.symm).1; omega)).trans h.seen, h.fr.andThen hg ?_, Nat.le_trans h.sz hg.size, h.vl⟩
 ·intro g hgg e
  rcases hat with h1 | h1
  ·rw [h1] at e; exact h.ap g hgg e
  ·rw [h1] at e; injection e with e; have := (owns_lt h.f g hgg).2; omega
 ·intro j hj
  have := (owns_lt h.l j hj).1
  exact .inl (by omega)
theorem bcs_kind {b : RX} {kd x y z u : Int} (h : bcs b = [.int .i64 kd, .int .u64 x, .int .u64 y, .int .u64 z, .int .u64 u, noKids]) : (X4.isB b = true ∧ kd = 1) ∨ (X4.isB b = false ∧ kd = 0) := by
 cases b <;> simp [bcs] at h <;> first | exact .inl ⟨rfl, h.1.symm⟩ | exact .inr ⟨rfl, h.symm ▸ rfl⟩ | exact .inr ⟨rfl, h.1.symm⟩
set_option maxRecDepth 100000 in
set_option maxHeartbeats 8000000 in
theorem closed_any (T : Nat → Nat) (TS : List Nat) (B m Bf : Nat) (w : World) (pv : Value) (AS : List Value) (P : List Pl) (bv v : Value) (F0 : List Nat) (hM : Mach T B m w pv AS P bv) (hTl : TS.length = P.length) (hTS : ∀ k, k < P.length → TS[k]? = some (T k)) (hTb : ∀ k, T k < 18446744073709551616) (hBd : X3.Bd P P.length)
  (hF : w.ownsRow Bf 3 1 v F0.length (ints F0)) (hBf : Bf ≤ w.heap.size) (hlt : ∀ f ∈ F0, f < P.length) (hap : ∀ g, Own m pv AS g → v.ownBlock ≠ some g) (hmu : F0.length + X3.muL P ≤ 1000000) (hPl : P.length ≤ 1000000) :
  Calls Tryz.prog 96 #[.pointer (some ⟨m, 0, none⟩), v] w fun e w' => ∃ rv A, e = .returned rv ∧ X4.Closed P TS (fun p => p ∈ F0) A ∧ w'.ownsRow w.heap.size 3 1 rv A.length (ints A) ∧ (A = [] → rv = .slice none 0 0) ∧ w.grownBy w' v.ownBlock := by
 have hvl : ∀ g, v.ownBlock = some g → g < w.heap.size := fun g hg => by
  rcases hF.2 with ⟨rfl, _⟩ | ⟨g', cap, cur, rfl, _, hh, _⟩
  ·cases hg
  ·injection hg with hg; subst hg; exact (Array.getElem?_eq_some_iff.1 hh).1
 obtain ⟨po, pc, rfl⟩ : ∃ po pc, pv = .slice po P.length pc := by
  rcases hM.row.2 with ⟨rfl, h0⟩ | ⟨g, cap, cur, rfl, _⟩
  ·exact ⟨none, 0, by rw [h0]⟩
  ·exact ⟨_, _, rfl⟩
 obtain ⟨fo, fc, rfl⟩ : ∃ fo fc, v = .slice fo F0.length fc := by
  rcases hF.2 with ⟨rfl, h0⟩ | ⟨g, cap, cur, rfl, _⟩
  ·exact ⟨none, 0, by rw [h0]⟩
  ·exact ⟨_, _, rfl⟩
 have hml := (Array.getElem?_eq_some_iff.1 hM.box).1
 have cm : w.cell? ⟨m, 0, none⟩ = some (.slice po P.length pc) := by rw [Lib.cell_of_heap hM.box]; rfl
 have km := made_bools P.length hPl w
 obtain ⟨w1, e1⟩ : ∃ w1, w.alloc (.cells (Array.replicate P.length (.bool false)) 4) = w1 := ⟨_, rfl⟩
 have hb1 : Below w.heap.size w w1 := by rw [← e1]; exact (Below.refl _ _).alloc (Nat.le_refl _) _
 have hn1 : w1.heap[w.heap.size]? = some (.cells (Array.replicate P.length (.bool false)) 4 (0, 0)) := by rw [← e1]; exact new_block _ _
 have hs1 : w1.heap.size = w.heap.size + 1 := by rw [← e1]; simp
 rw [e1] at km
 have HC0 : Hid (CM Bf (.slice fo F0.length fc) w F0 (List.replicate P.length false) [] (.slice fo F0.length fc) (.slice none 0 0) w1) := hid
  { f := owns_kept hF fun g hg => hb1.block g (hvl g hg)
    fb := .inl rfl
    l := ⟨rfl, .inl ⟨rfl, rfl⟩⟩
    ln := fun _ => rfl
    ap := fun g _ h => by cases h
    seen := by rw [hn1]; simp
    fr := ⟨hb1.os, hb1.tape, hb1.output, hb1.size, fun k hk _ => hb1.block k hk⟩
    sz := by omega
    vl := hvl }
 have HD0 := hid (X4.Dfs.begin P TS F0 hlt)
 have HM := hid hM
 have HAP := hid hap
 have HTS := hid hTS
 have HTB := hid hTb
 have HBD := hid hBd
 have HVL := hid hvl
 have HTL := hid hTl
 have hs1' : w.heap.size < w1.heap.size := by omega
 clear hM hF hap hTS hTb hBd hvl hn1 hs1 hlt e1 hTl
 go_enter Tryz.func96, Tryz.ntmps96
 go_wp2_with fail
 go_step3
 go_wp2_with fail
 go_step3
 go_wp2_with fail
 go_loopg [1, 5] (F0.length + X4.wt P (List.replicate P.length false)) (fun gk t1 t5 wr => ∃ (F : List Nat) (Sn : List Bool) (A : List Nat), Aside (gk = F.length + X4.wt P Sn ∧ X4.Dfs P TS F0 F Sn A ∧ CM Bf (.slice fo F0.length fc) w F Sn A t1 t5 wr))
 case atStart => exact ⟨_, _, _, rfl, HD0.out, HC0.out⟩
 case round =>
  obtain ⟨F, Sn, A, hst⟩ := hrel
  obtain ⟨hgk, hD, hC⟩ := hst.out
  clear hst
  have HC := hid hC
  have HD := hid hD
  have HG := hid hgk
  clear hC hD hgk
  have hsz := HC.out.sz
  have hmuC := HD.out.mu
  have hal := HD.out.alen
  rcases nil_or_snoc F with rfl | ⟨F', n, rfl⟩
  ·have hf := HC.out.f
   obtain ⟨o1, c1, rfl⟩ : ∃ o1 c1, u1 = .slice o1 0 c1 := by
    rcases hf.2 with ⟨rfl, h0⟩ | ⟨g, cap, cur, rfl, _⟩
    ·exact ⟨none, 0, rfl⟩
    ·exact ⟨_, _, rfl⟩
   clear hf
   have hl := HC.out.l
   rcases hl.2 with ⟨rfl, h0⟩ | ⟨g, cap, cur, rfl, hBg, hg, hc, hcm, hs, ht⟩
   ·have hA0 : A = [] := List.eq_nil_of_length_eq_zero h0
    subst hA0
    have ks := hid (fun (w : World) => sort_none none 0 w)
    clear hl h0
    go_wp2_with fail
    refine (ks.out _).mono ?_
    rintro e w9 ⟨rfl, rfl⟩
    go_wp2_with fail
    rw [Exit.noGoto_ret]
    go_ret
    exact ⟨_, [], rfl, HD.out.done (List.Perm.refl _) List.Pairwise.nil, ⟨rfl, .inl ⟨rfl, rfl⟩⟩, fun _ => rfl, HC.out.fr⟩
   ·have hgl := (Array.getElem?_eq_some_iff.1 hg).1
    have hk := sort_ints g 0 cap (A.map fun (q : Nat) => (q : Int)) wr (holds_of_blockI hg (by rw [List.length_map, List.map_map]; rw [Nat.mul_one] at ht; exact ht)) hgl (by rw [List.length_map]; omega)
    rw [List.length_map] at hk
    have ks := hid hk
    have HR := hid (And.intro hBg (And.intro hg (And.intro hc (And.intro hcm hs))))
    clear hk hl hg ht hc hcm hs hBg
    go_wp2_with fail
    refine ks.out.mono ?_
    rintro e w9 ⟨rfl, n9, os9, rfl⟩
    go_wp2_with fail
    rw [Exit.noGoto_ret]
    go_ret
    obtain ⟨hBg, hg, hc, hcm, hs⟩ := HR.out
    have hmap : ((A.map fun (q : Nat) => (q : Int)).mergeSort fun x y => decide (x ≤ y)) = (A.mergeSort fun x y => decide (x ≤ y)).map fun (q : Nat) => (q : Int) := by
     rw [List.map_mergeSort]
     intro a _ b _
     simp
    have hlB : (A.mergeSort fun x y => decide (x ≤ y)).length = A.length := List.length_mergeSort _
    have ho := ownsRow_sortedI (w := wr) (base := w.heap.size) (n := n9) (os := os9) (ss := A.map fun (q : Nat) => (q : Int)) (ts := (A.map fun (q : Nat) => (q : Int)).mergeSort fun x y => decide (x ≤ y)) (by rw [List.length_mergeSort]) (by omega) hg (by rw [List.length_map]; exact hc) hcm hs
    rw [List.length_map, hmap, List.map_map] at ho
    refine ⟨_, A.mergeSort fun x y => decide (x ≤ y), rfl, HD.out.done (List.mergeSort_perm _ _) ?_, ?_, ?_, ?_⟩
    ·have := List.pairwise_mergeSort (le := fun (x y : Nat) => decide (x ≤ y)) (by intro a b c h1 h2; simp at h1 h2 ⊢; omega) (by intro a b; simp; omega) A
     exact this.imp (by intro a b h; simpa using h)
    ·rw [hlB]; rw [hmap]; exact ho
    ·intro h; exact absurd (HC.out.ln (by have := congrArg List.length h; rw [hlB] at this; exact List.eq_nil_of_length_eq_zero this)) (by simp)
    ·rw [hmap]
     have h1 := grownBy_sortedI (w := wr) (g := g) (n := n9) (os := os9) ((A.mergeSort fun x y => decide (x ≤ y)).map fun (q : Nat) => (q : Int)).toArray
     exact HC.out.fr.andThen h1 (fun j hj => by injection hj with hj; subst hj; exact .inl (by omega))
  ·have hf := HC.out.f
   obtain ⟨gf, cf, rfl⟩ : ∃ gf cf, u1 = .slice (some ⟨gf, 0, none⟩) (F' ++ [n]).length cf := by
    rcases hf.2 with ⟨_, h0⟩ | ⟨g, cap, cur, rfl, _⟩
    ·simp at h0
    ·exact ⟨_, _, rfl⟩
   have hnP := HD.out.ltF n (by simp)
   have hcn : wr.cell? ⟨gf, F'.length, none⟩ = some (.int .i64 (n : Int)) := by rw [hf.cellAt F'.length (by simp)]; simp [ints]
   have hcp : F'.length + 1 ≤ cf := by
    rcases hf.2 with ⟨h', _⟩ | ⟨g', cap', cur, h', hB, hg, hc, _⟩
    ·cases h'
    ·injection h' with h1 h2 h3; subst h3; simpa using hc
   have hlF : ((F' ++ [n]).length : Int) = (F'.length : Int) + 1 := by simp
   have hlF2 : (F' ++ [n]).length = F'.length + 1 := by simp
   have HC1 := hid HC.out.pop
   clear hf
   obtain ⟨b0, hb0⟩ : ∃ b0, Sn[n]? = some b0 := ⟨_, List.getElem?_eq_getElem (by rw [HD.out.len]; exact hnP)⟩
   obtain ⟨x1, x2, x3⟩ := bools_cell HC.out.seen hb0
   have hsn1 : (n : Int) < (P.length : Int) := by omega
   have hsn2 : (0 : Int) ≤ (n : Int) := by omega
   have hi1 : (0 : Int) ≤ (F'.length : Int) := by omega
   rw [hlF2]
   have hFl : F'.length + 1 ≤ 1000000 := by rw [hlF2] at hmuC; omega
   have hi2 : (F'.length : Int) < 9223372036854775808 := by omega
   have hi3 : (F'.length : Int) ≤ (cf : Int) := by omega
   clear hlF hlF2 x3
   cases b0 with
   | true =>
    have HB0 := hid hb0
    clear hb0
    go_wp2_with fail
    go_roundg (gk - 1)
    case measure => have := HG.out; simp at this; omega
    case rel => exact ⟨F', Sn, A, by have := HG.out; simp at this; omega, HD.out.skip HB0.out, HC1.out⟩
   | false =>
    have hsn := hb0
    clear hb0
    obtain ⟨w2, e2⟩ : ∃ w2, wr.setCell ⟨w.heap.size, n, none⟩ (.bool true) = w2 := ⟨_, rfl⟩
    have HC2 : Hid (CM Bf (.slice fo F0.length fc) w F' (Sn.set n true) A (.slice (some ⟨gf, 0, none⟩) F'.length cf) u5 w2) := hid (by rw [← e2]; exact HC1.out.mark hsn)
    have hs2 : w2.heap.size = wr.heap.size := by rw [← e2]; simp
    have hM2 : Mach T B m w2 (.slice po P.length pc) AS P bv := HM.out.grown HC2.out.fr HAP.out
    have cm2 : w2.cell? ⟨m, 0, none⟩ = some (.slice po P.length pc) := by rw [Lib.cell_of_heap hM2.box]; rfl
    obtain ⟨pl, hpl⟩ : ∃ pl, P[n]? = some pl := ⟨_, List.getElem?_eq_getElem hnP⟩
    obtain ⟨pg, cap, kd, x, y, z, u, av, hpv, hav, hbc, hno, c0, c1, c2, c3, c4, c5, c6, c7, c8⟩ := hM2.at_ hpl
    injection hpv with hp1 hp2 hp3
    subst hp1 hp3
    obtain ⟨ao, an, ac0, rfl⟩ : ∃ ao an ac, av = .slice ao an ac := by
     rcases (hM2.also n pl av hpl hav).2 with ⟨rfl, _⟩ | ⟨_, _, _, rfl, _⟩ <;> exact ⟨_, _, _, rfl⟩
    obtain ⟨tv, htv⟩ : ∃ tv : Int, ((T n : Nat) : Int) = tv := ⟨_, rfl⟩
    rw [htv] at c8
    have htvb : 0 ≤ tv ∧ tv < 18446744073709551616 := by have := HTB.out n; omega
    have HTV := hid htv
    clear htv
    obtain ⟨w3, e3⟩ : ∃ w3, w2.alloc (.cells #[.int .i64 kd, .int .u64 x, .int .u64 y, .int .u64 z, .int .u64 u, noKids, .int .i64 (pl.next : Int), .slice ao an ac0, .int .u64 tv] 159) = w3 := ⟨_, rfl⟩
    have hb3 : Below w2.heap.size w2 w3 := by rw [← e3]; exact (Below.refl _ _).alloc (Nat.le_refl _) _
    have hn3 : w3.heap[w2.heap.size]? = some (.cells #[.int .i64 kd, .int .u64 x, .int .u64 y, .int .u64 z, .int .u64 u, noKids, .int .i64 (pl.next : Int), .slice ao an ac0, .int .u64 tv] 159 (0, 0)) := by rw [← e3]; exact new_block _ _
    have hs3 : w3.heap.size = w2.heap.size + 1 := by rw [← e3]; simp
    have d0 : w3.cell? ⟨w2.heap.size, 0, none⟩ = some (.int .i64 kd) := by rw [Lib.cell_of_heap hn3]; rfl
    have d7 : w3.cell? ⟨w2.heap.size, 7, none⟩ = some (.slice ao an ac0) := by rw [Lib.cell_of_heap hn3]; rfl
    have HAL := hid ((hM2.also n pl _ hpl hav))
    have HC3 := hid (HC2.out.below hb3)
    have HB3 := hid hb3
    have hkd := bcs_kind hbc
    have HN3 := hid hn3
    have HS3 := hid (And.intro hs2 hs3)
    obtain ⟨i0, hi, hq0, hq1, hq2⟩ := info_parts info3
    have hal2 := X3.also_le_mu hpl
    have hTn := HTB.out n
    have hAb : A.length + 1 ≤ 1000001 := by omega
    clear hM2 hav hbc hno hb3 hn3 hs3 hs2
    have hgf := (owns_lt HC1.out.f gf rfl).2
    have hs32 := HS3.out.2
    have hs22 := HS3.out.1
    have hbs3 : Bf ≤ w3.heap.size := by omega
    clear hs32 hs22
    go_upto_region 9 with fail
    clear e3 e2 c0 c1 c2 c3 c4 c5 c6 c7 c8 x1 x2 hcn
    rcases hkd with ⟨hib, rfl⟩ | ⟨hib, rfl⟩
    ·have himp : X4.imp P TS n := .inl ⟨pl, hpl, hib⟩
     have HIB := hid hib
     clear hib
     rcases HAL.out.2 with ⟨hnil, hz⟩ | ⟨ag, ac, cura, hav2, hagB, hag, hac, hacm, hacs, hact⟩
     ·have ha0 : pl.also = [] := List.eq_nil_of_length_eq_zero hz
      injection hnil with q1 q2 q3
      subst q1 q2 q3
      have HZ0 := hid ha0
      have HC4 : Hid (CM Bf (.slice fo F0.length fc) w (F' ++ pl.also) (Sn.set n true) A (.slice (some ⟨gf, 0, none⟩) F'.length cf) u5 w3) := hid (by rw [ha0, List.append_nil]; exact HC3.out)
      have g8 : w3.cell? ⟨w2.heap.size, 8, none⟩ = some (.int .u64 tv) := by rw [Lib.cell_of_heap HN3.out]; rfl
      clear hz ha0
      obtain ⟨w5, e5⟩ : ∃ w5, w3.alloc (.cells #[.int .i64 (n : Int)] 3) = w5 := ⟨_, rfl⟩
      have hb5 : Below w3.heap.size w3 w5 := by rw [← e5]; exact (Below.refl _ _).alloc (Nat.le_refl _) _
      have hn5 : w5.heap[w3.heap.size]? = some (.cells #[.int .i64 (n : Int)] 3 (0, 0)) := by rw [← e5]; exact new_block _ _
      have HC5 := hid (HC4.out.below hb5)
      go_wp2_with (at_builtin; go_loud (refine wpList_append_own_at _ rfl (.tmp 56) (.tmp 58) 87 rfl (w.heap.size + 1) 3 i0 (.int .i64 0) 1 8 Tryz.underlying87 hi hq0 hq1 hq2 rfl (by decide) u5 A.length (ints A) rfl HC5.out.l ⟨w3.heap.size, 0, none⟩ 1 1 [.int .i64 (n : Int)] ?c0_1 rfl ?c1_1 ?c2_1 ?c3_1 ?c4_1 ?c5_1 ?_))
      try (case c0_1 => first | rfl | simp [Act.eval])
      case c1_1 =>
       intro j v hj
       have := Lib.cell_of_heap hn5 j
       first | rw [show (⟨w3.heap.size, 0, none⟩ : Addr).add j = ⟨w3.heap.size, j, none⟩ by simp [Addr.add]; omega] | skip
       rw [this, ← hj]
       simp
      case c2_1 => first | (intro v hv; simp at hv; rcases hv with rfl; rfl) | rfl | trace_state
      case c3_1 => unfold maxLen; omega
      case c4_1 => omega
      try (case c5_1 => exact HC5.out.sz)
      intro l' w6 hown6 hgrow6 hnil6 hat6
      have HC6 := hid (HC5.out.grownL (A' := A ++ [n]) (t5' := l') (w' := w6) (by rw [List.length_append]; unfold ints; rw [List.map_append]; exact hown6) (by simp) hgrow6 hat6)
      clear hown6 hgrow6 hnil6 hat6 hn5 e5 hb5
      go_wp2_with fail
      go_roundg (gk - 2)
      case measure => have := HG.out; have := X4.wt_set hsn hpl; simp at *; omega
      case rel => exact ⟨F' ++ pl.also, Sn.set n true, A ++ [n], by have := HG.out; have := X4.wt_set hsn hpl; simp at *; omega, HD.out.see hsn hpl HBD.out (.inl ⟨himp, rfl⟩), HC6.out⟩
     ·have hcell : ∀ (j q : Nat), pl.also[j]? = some q → w3.cell? ⟨ag, j, none⟩ = some (.int .i64 (q : Int)) := by
       intro j q hq
       injection hav2 with q1 q2 q3
       subst q1 q2 q3
       have hjl : j < pl.also.length := (List.getElem?_eq_some_iff.1 hq).1
       have h1 := World.cell?_of_block (a := ⟨ag, j, none⟩) (HB3.out.block ag (Array.getElem?_eq_some_iff.1 hag).1)
       rw [h1, HAL.out.cellAt j (by omega)]
       simp [hq]
      have HCELL := hid hcell
      injection hav2 with q1 q2 q3
      subst q1 q2 q3
      clear hcell hag hact hac hacm hacs hagB HAL
      go_wp2_with (at_builtin; go_loud (refine wpList_append_own_at _ rfl (.tmp 43) (.tmp 45) 87 rfl Bf 3 i0 (.int .i64 0) 1 8 Tryz.underlying87 hi hq0 hq1 hq2 rfl (by decide) _ F'.length (ints F') rfl HC3.out.f ⟨ag, 0, none⟩ pl.also.length _ (ints pl.also) rfl (by simp [ints]) ?c1_2 ?c2_2 ?c3_2 ?c4_2 ?c5_2 ?_))
      case c1_2 =>
       intro j v hj
       first | exact HCELL.out j v hj | (cases hq : pl.also[j]? with | none => simp [hq] at hj | some q => simp [hq] at hj; subst hj; simp [Addr.add]; exact HCELL.out j q hq)
      case c2_2 => first | (intro v hv; rfl) | (intro v hv; obtain ⟨q, _, rfl⟩ := List.mem_map.1 hv; rfl)
      case c3_2 => unfold maxLen; omega
      case c4_2 => omega
      try (case c5_2 => exact hbs3)
      intro f4 w4 hown4 hgrow4 hnil4 hat4
      have HC4 : Hid (CM Bf (.slice fo F0.length fc) w (F' ++ pl.also) (Sn.set n true) A f4 u5 w4) := hid (HC3.out.grownF (by rw [List.length_append]; unfold ints; rw [List.map_append]; exact hown4) hgrow4 hat4)
      have hn4 : w4.heap[w2.heap.size]? = _ := (hgrow4.block w2.heap.size (Array.getElem?_eq_some_iff.1 HN3.out).1 (fun e => by have e1 : w2.heap.size = gf := Option.some.inj e; have := HS3.out.1; omega)).trans HN3.out
      have g0 : w4.cell? ⟨w2.heap.size, 0, none⟩ = some (.int .i64 1) := by rw [Lib.cell_of_heap hn4]; rfl
      have g8 : w4.cell? ⟨w2.heap.size, 8, none⟩ = some (.int .u64 tv) := by rw [Lib.cell_of_heap hn4]; rfl
      clear d0 d7 hown4 hgrow4 hnil4 hat4 hn4
      obtain ⟨w5, e5⟩ : ∃ w5, w4.alloc (.cells #[.int .i64 (n : Int)] 3) = w5 := ⟨_, rfl⟩
      have hb5 : Below w4.heap.size w4 w5 := by rw [← e5]; exact (Below.refl _ _).alloc (Nat.le_refl _) _
      have hn5 : w5.heap[w4.heap.size]? = some (.cells #[.int .i64 (n : Int)] 3 (0, 0)) := by rw [← e5]; exact new_block _ _
      have HC5 := hid (HC4.out.below hb5)
      go_wp2_with (at_builtin; go_loud (refine wpList_append_own_at _ rfl (.tmp 56) (.tmp 58) 87 rfl (w.heap.size + 1) 3 i0 (.int .i64 0) 1 8 Tryz.underlying87 hi hq0 hq1 hq2 rfl (by decide) u5 A.length (ints A) rfl HC5.out.l ⟨w4.heap.size, 0, none⟩ 1 1 [.int .i64 (n : Int)] ?c0_3 rfl ?c1_3 ?c2_3 ?c3_3 ?c4_3 ?c5_3 ?_))
      try (case c0_3 => first | rfl | simp [Act.eval])
      case c1_3 =>
       intro j v hj
       have := Lib.cell_of_heap hn5 j
       first | rw [show (⟨w4.heap.size, 0, none⟩ : Addr).add j = ⟨w4.heap.size, j, none⟩ by simp [Addr.add]; omega] | skip
       rw [this, ← hj]
       simp
      case c2_3 => first | (intro v hv; simp at hv; rcases hv with rfl; rfl) | rfl | trace_state
      case c3_3 => unfold maxLen; omega
      case c4_3 => omega
      try (case c5_3 => exact HC5.out.sz)
      intro l' w6 hown6 hgrow6 hnil6 hat6
      have HC6 := hid (HC5.out.grownL (A' := A ++ [n]) (t5' := l') (w' := w6) (by rw [List.length_append]; unfold ints; rw [List.map_append]; exact hown6) (by simp) hgrow6 hat6)
      clear hown6 hgrow6 hnil6 hat6 hn5 e5 hb5
      go_wp2_with fail
      go_roundg (gk - 2)
      case measure => have := HG.out; have := X4.wt_set hsn hpl; simp at *; omega
      case rel => exact ⟨F' ++ pl.also, Sn.set n true, A ++ [n], by have := HG.out; have := X4.wt_set hsn hpl; simp at *; omega, HD.out.see hsn hpl HBD.out (.inl ⟨himp, rfl⟩), HC6.out⟩
    ·by_cases ht0 : tv = 0
     ·have hnimp : ¬ X4.imp P TS n := by
       rintro (⟨pl', h1, h2⟩ | ⟨t, h1, h2⟩)
       ·rw [hpl] at h1; injection h1 with h1; subst h1; rw [hib] at h2; cases h2
       ·rw [HTS.out n hnP] at h1; injection h1 with h1; have := HTV.out; omega
      have HIB := hid hib
      subst ht0
      clear hib
      rcases HAL.out.2 with ⟨hnil, hz⟩ | ⟨ag, ac, cura, hav2, hagB, hag, hac, hacm, hacs, hact⟩
      ·have ha0 : pl.also = [] := List.eq_nil_of_length_eq_zero hz
       injection hnil with q1 q2 q3
       subst q1 q2 q3
       have HZ0 := hid ha0
       have HC4 : Hid (CM Bf (.slice fo F0.length fc) w (F' ++ pl.also) (Sn.set n true) A (.slice (some ⟨gf, 0, none⟩) F'.length cf) u5 w3) := hid (by rw [ha0, List.append_nil]; exact HC3.out)
       have g8 : w3.cell? ⟨w2.heap.size, 8, none⟩ = some (.int .u64 0) := by rw [Lib.cell_of_heap HN3.out]; rfl
       clear hz ha0
       go_wp2_with fail
       go_roundg (gk - 2)
       case measure => have := HG.out; have := X4.wt_set hsn hpl; simp at *; omega
       case rel => exact ⟨F' ++ pl.also, Sn.set n true, A, by have := HG.out; have := X4.wt_set hsn hpl; simp at *; omega, HD.out.see hsn hpl HBD.out (.inr ⟨hnimp, rfl⟩), HC4.out⟩
      ·have hcell : ∀ (j q : Nat), pl.also[j]? = some q → w3.cell? ⟨ag, j, none⟩ = some (.int .i64 (q : Int)) := by
        intro j q hq
        injection hav2 with q1 q2 q3
        subst q1 q2 q3
        have hjl : j < pl.also.length := (List.getElem?_eq_some_iff.1 hq).1
        have h1 := World.cell?_of_block (a := ⟨ag, j, none⟩) (HB3.out.block ag (Array.getElem?_eq_some_iff.1 hag).1)
        rw [h1, HAL.out.cellAt j (by omega)]
        simp [hq]
       have HCELL := hid hcell
       injection hav2 with q1 q2 q3
       subst q1 q2 q3
       clear hcell hag hact hac hacm hacs hagB HAL
       go_wp2_with (at_builtin; go_loud (refine wpList_append_own_at _ rfl (.tmp 43) (.tmp 45) 87 rfl Bf 3 i0 (.int .i64 0) 1 8 Tryz.underlying87 hi hq0 hq1 hq2 rfl (by decide) _ F'.length (ints F') rfl HC3.out.f ⟨ag, 0, none⟩ pl.also.length _ (ints pl.also) rfl (by simp [ints]) ?c1_4 ?c2_4 ?c3_4 ?c4_4 ?c5_4 ?_))
       case c1_4 =>
        intro j v hj
        first | exact HCELL.out j v hj | (cases hq : pl.also[j]? with | none => simp [hq] at hj | some q => simp [hq] at hj; subst hj; simp [Addr.add]; exact HCELL.out j q hq)
       case c2_4 => first | (intro v hv; rfl) | (intro v hv; obtain ⟨q, _, rfl⟩ := List.mem_map.1 hv; rfl)
       case c3_4 => unfold maxLen; omega
       case c4_4 => omega
       try (case c5_4 => exact hbs3)
       intro f4 w4 hown4 hgrow4 hnil4 hat4
       have HC4 : Hid (CM Bf (.slice fo F0.length fc) w (F' ++ pl.also) (Sn.set n true) A f4 u5 w4) := hid (HC3.out.grownF (by rw [List.length_append]; unfold ints; rw [List.map_append]; exact hown4) hgrow4 hat4)
       have hn4 : w4.heap[w2.heap.size]? = _ := (hgrow4.block w2.heap.size (Array.getElem?_eq_some_iff.1 HN3.out).1 (fun e => by have e1 : w2.heap.size = gf := Option.some.inj e; have := HS3.out.1; omega)).trans HN3.out
       have g0 : w4.cell? ⟨w2.heap.size, 0, none⟩ = some (.int .i64 0) := by rw [Lib.cell_of_heap hn4]; rfl
       have g8 : w4.cell? ⟨w2.heap.size, 8, none⟩ = some (.int .u64 0) := by rw [Lib.cell_of_heap hn4]; rfl
       clear d0 d7 hown4 hgrow4 hnil4 hat4 hn4
       go_wp2_with fail
       go_roundg (gk - 2)
       case measure => have := HG.out; have := X4.wt_set hsn hpl; simp at *; omega
       case rel => exact ⟨F' ++ pl.also, Sn.set n true, A, by have := HG.out; have := X4.wt_set hsn hpl; simp at *; omega, HD.out.see hsn hpl HBD.out (.inr ⟨hnimp, rfl⟩), HC4.out⟩
     ·have himp : X4.imp P TS n := .inr ⟨_, HTS.out n hnP, fun e => ht0 (by have := HTV.out; omega)⟩
      have ht2 : (tv == 0) = false := by simpa using ht0
      have ht3 : decide (tv = 0) = false := by simpa using ht0
      clear ht0
      have HIB := hid hib
      clear hib
      rcases HAL.out.2 with ⟨hnil, hz⟩ | ⟨ag, ac, cura, hav2, hagB, hag, hac, hacm, hacs, hact⟩
      ·have ha0 : pl.also = [] := List.eq_nil_of_length_eq_zero hz
       injection hnil with q1 q2 q3
       subst q1 q2 q3
       have HZ0 := hid ha0
       have HC4 : Hid (CM Bf (.slice fo F0.length fc) w (F' ++ pl.also) (Sn.set n true) A (.slice (some ⟨gf, 0, none⟩) F'.length cf) u5 w3) := hid (by rw [ha0, List.append_nil]; exact HC3.out)
       have g8 : w3.cell? ⟨w2.heap.size, 8, none⟩ = some (.int .u64 tv) := by rw [Lib.cell_of_heap HN3.out]; rfl
       clear hz ha0
       obtain ⟨w5, e5⟩ : ∃ w5, w3.alloc (.cells #[.int .i64 (n : Int)] 3) = w5 := ⟨_, rfl⟩
       have hb5 : Below w3.heap.size w3 w5 := by rw [← e5]; exact (Below.refl _ _).alloc (Nat.le_refl _) _
       have hn5 : w5.heap[w3.heap.size]? = some (.cells #[.int .i64 (n : Int)] 3 (0, 0)) := by rw [← e5]; exact new_block _ _
       have HC5 := hid (HC4.out.below hb5)
       go_wp2_with (at_builtin; go_loud (refine wpList_append_own_at _ rfl (.tmp 56) (.tmp 58) 87 rfl (w.heap.size + 1) 3 i0 (.int .i64 0) 1 8 Tryz.underlying87 hi hq0 hq1 hq2 rfl (by decide) u5 A.length (ints A) rfl HC5.out.l ⟨w3.heap.size, 0, none⟩ 1 1 [.int .i64 (n : Int)] ?c0_5 rfl ?c1_5 ?c2_5 ?c3_5 ?c4_5 ?c5_5 ?_))
       try (case c0_5 => first | rfl | simp [Act.eval])
       case c1_5 =>
        intro j v hj
        have := Lib.cell_of_heap hn5 j
        first | rw [show (⟨w3.heap.size, 0, none⟩ : Addr).add j = ⟨w3.heap.size, j, none⟩ by simp [Addr.add]; omega] | skip
        rw [this, ← hj]
        simp
       case c2_5 => first | (intro v hv; simp at hv; rcases hv with rfl; rfl) | rfl | trace_state
       case c3_5 => unfold maxLen; omega
       case c4_5 => omega
       try (case c5_5 => exact HC5.out.sz)
       intro l' w6 hown6 hgrow6 hnil6 hat6
       have HC6 := hid (HC5.out.grownL (A' := A ++ [n]) (t5' := l') (w' := w6) (by rw [List.length_append]; unfold ints; rw [List.map_append]; exact hown6) (by simp) hgrow6 hat6)
       clear hown6 hgrow6 hnil6 hat6 hn5 e5 hb5
       go_wp2_with fail
       go_roundg (gk - 2)
       case measure => have := HG.out; have := X4.wt_set hsn hpl; simp at *; omega
       case rel => exact ⟨F' ++ pl.also, Sn.set n true, A ++ [n], by have := HG.out; have := X4.wt_set hsn hpl; simp at *; omega, HD.out.see hsn hpl HBD.out (.inl ⟨himp, rfl⟩), HC6.out⟩
      ·have hcell : ∀ (j q : Nat), pl.also[j]? = some q → w3.cell? ⟨ag, j, none⟩ = some (.int .i64 (q : Int)) := by
        intro j q hq
        injection hav2 with q1 q2 q3
        subst q1 q2 q3
        have hjl : j < pl.also.length := (List.getElem?_eq_some_iff.1 hq).1
        have h1 := World.cell?_of_block (a := ⟨ag, j, none⟩) (HB3.out.block ag (Array.getElem?_eq_some_iff.1 hag).1)
        rw [h1, HAL.out.cellAt j (by omega)]
        simp [hq]
       have HCELL := hid hcell
       injection hav2 with q1 q2 q3
       subst q1 q2 q3
       clear hcell hag hact hac hacm hacs hagB HAL
       go_wp2_with (at_builtin; go_loud (refine wpList_append_own_at _ rfl (.tmp 43) (.tmp 45) 87 rfl Bf 3 i0 (.int .i64 0) 1 8 Tryz.underlying87 hi hq0 hq1 hq2 rfl (by decide) _ F'.length (ints F') rfl HC3.out.f ⟨ag, 0, none⟩ pl.also.length _ (ints pl.also) rfl (by simp [ints]) ?c1_6 ?c2_6 ?c3_6 ?c4_6 ?c5_6 ?_))
       case c1_6 =>
        intro j v hj
        first | exact HCELL.out j v hj | (cases hq : pl.also[j]? with | none => simp [hq] at hj | some q => simp [hq] at hj; subst hj; simp [Addr.add]; exact HCELL.out j q hq)
       case c2_6 => first | (intro v hv; rfl) | (intro v hv; obtain ⟨q, _, rfl⟩ := List.mem_map.1 hv; rfl)
       case c3_6 => unfold maxLen; omega
       case c4_6 => omega
       try (case c5_6 => exact hbs3)
       intro f4 w4 hown4 hgrow4 hnil4 hat4
       have HC4 : Hid (CM Bf (.slice fo F0.length fc) w (F' ++ pl.also) (Sn.set n true) A f4 u5 w4) := hid (HC3.out.grownF (by rw [List.length_append]; unfold ints; rw [List.map_append]; exact hown4) hgrow4 hat4)
       have hn4 : w4.heap[w2.heap.size]? = _ := (hgrow4.block w2.heap.size (Array.getElem?_eq_some_iff.1 HN3.out).1 (fun e => by have e1 : w2.heap.size = gf := Option.some.inj e; have := HS3.out.1; omega)).trans HN3.out
       have g0 : w4.cell? ⟨w2.heap.size, 0, none⟩ = some (.int .i64 0) := by rw [Lib.cell_of_heap hn4]; rfl
       have g8 : w4.cell? ⟨w2.heap.size, 8, none⟩ = some (.int .u64 tv) := by rw [Lib.cell_of_heap hn4]; rfl
       clear d0 d7 hown4 hgrow4 hnil4 hat4 hn4
       obtain ⟨w5, e5⟩ : ∃ w5, w4.alloc (.cells #[.int .i64 (n : Int)] 3) = w5 := ⟨_, rfl⟩
       have hb5 : Below w4.heap.size w4 w5 := by rw [← e5]; exact (Below.refl _ _).alloc (Nat.le_refl _) _
       have hn5 : w5.heap[w4.heap.size]? = some (.cells #[.int .i64 (n : Int)] 3 (0, 0)) := by rw [← e5]; exact new_block _ _
       have HC5 := hid (HC4.out.below hb5)
       go_wp2_with (at_builtin; go_loud (refine wpList_append_own_at _ rfl (.tmp 56) (.tmp 58) 87 rfl (w.heap.size + 1) 3 i0 (.int .i64 0) 1 8 Tryz.underlying87 hi hq0 hq1 hq2 rfl (by decide) u5 A.length (ints A) rfl HC5.out.l ⟨w4.heap.size, 0, none⟩ 1 1 [.int .i64 (n : Int)] ?c0_7 rfl ?c1_7 ?c2_7 ?c3_7 ?c4_7 ?c5_7 ?_))
       try (case c0_7 => first | rfl | simp [Act.eval])
       case c1_7 =>
        intro j v hj
        have := Lib.cell_of_heap hn5 j
        first | rw [show (⟨w4.heap.size, 0, none⟩ : Addr).add j = ⟨w4.heap.size, j, none⟩ by simp [Addr.add]; omega] | skip
        rw [this, ← hj]
        simp
       case c2_7 => first | (intro v hv; simp at hv; rcases hv with rfl; rfl) | rfl | trace_state
       case c3_7 => unfold maxLen; omega
       case c4_7 => omega
       try (case c5_7 => exact HC5.out.sz)
       intro l' w6 hown6 hgrow6 hnil6 hat6
       have HC6 := hid (HC5.out.grownL (A' := A ++ [n]) (t5' := l') (w' := w6) (by rw [List.length_append]; unfold ints; rw [List.map_append]; exact hown6) (by simp) hgrow6 hat6)
       clear hown6 hgrow6 hnil6 hat6 hn5 e5 hb5
       go_wp2_with fail
       go_roundg (gk - 2)
       case measure => have := HG.out; have := X4.wt_set hsn hpl; simp at *; omega
       case rel => exact ⟨F' ++ pl.also, Sn.set n true, A ++ [n], by have := HG.out; have := X4.wt_set hsn hpl; simp at *; omega, HD.out.see hsn hpl HBD.out (.inl ⟨himp, rfl⟩), HC6.out⟩
end Go.Proofs.YtochckefnjobhaaGreatDoor
