/- regex's matcher: lay. -/
import Derived.Test.YtndefngkkikkeaaMc
namespace Go.Proofs.Ytndefngkkikkeaa
open Go Go.RowKit Go.Lib
open X3 (RX Pl)
set_option linter.unusedVariables false
set_option linter.unusedSimpArgs false

theorem LF.restored {B m : Nat} {w1 w2 : World} {pg n cap k j : Nat} {av0 av : Value} {AS : List Value} {P : List Pl} (h : MRep B m w1 (.slice (some ⟨pg, 0, none⟩) n cap) AS P)
    (hk : AS[k]? = some av0) (hg : w1.grownBy w2 av0.ownBlock) (hat : av.ownBlock = av0.ownBlock ∨ ∃ g, av.ownBlock = some g ∧ w1.heap.size ≤ g) :
    LF w1 (w2.setCell ⟨pg, j, none⟩ av) (Own m (.slice (some ⟨pg, 0, none⟩) n cap) AS) (Own m (.slice (some ⟨pg, 0, none⟩) n cap) (AS.set k av)) := by
  refine ⟨hg.os, hg.tape, hg.output, by have := hg.size; simpa using this, fun g hgl hO => ?_, fun g ho => ?_⟩
  · exact (Below.heap_setCell w2 ⟨pg, j, none⟩ av g (fun e => hO (.inr (.inl (congrArg some e.symm))))).trans (hg.block g hgl (fun e => hO (.inr (.inr ⟨av0, List.mem_iff_getElem?.2 ⟨k, hk⟩, e.symm⟩))))
  · rcases ho with h1 | h1 | ⟨a, ha, h1⟩
    · exact .inl (.inl h1)
    · exact .inl (.inr (.inl h1))
    · rcases List.mem_or_eq_of_mem_set ha with ha | rfl
      · exact .inl (.inr (.inr ⟨a, ha, h1⟩))
      · rcases hat with e | ⟨g', e, hl⟩
        · exact .inl (.inr (.inr ⟨av0, List.mem_iff_getElem?.2 ⟨k, hk⟩, by rw [← e]; exact h1⟩))
        · rw [e] at h1; obtain rfl := Option.some.inj h1; exact .inr hl

/-- What lay comes to. -/
def LayP (B m : Nat) (w : World) (pv : Value) (AS : List Value) (r : Nat × List Pl) (e : Ending) (w' : World) : Prop :=
  ∃ pv' AS', e = .returned (.int .i64 (r.1 : Nat)) ∧ MRep B m w' pv' AS' r.2 ∧ LF w w' (Own m pv AS) (Own m pv' AS')

theorem lay_empty (B m b : Nat) (w : World) (pv : Value) (AS : List Value) (P : List Pl) (hM : MRep B m w pv AS P) :
    Calls Try.prog 25 #[.pointer (some ⟨m, 0, none⟩), nodeV 0 0 0 0 0 noKids, .int .i64 (b : Int)] w (LayP B m w pv AS (b, P)) := by
  have HM := hid hM
  clear hM
  go_enter Try.func25, Try.ntmps25
  go_wp2_with fail
  go_ret
  exact ⟨pv, AS, rfl, HM.out.below ((Below.refl _ _).alloc (Nat.le_refl _) _), LF.ofBelow ((Below.refl _ _).alloc (Nat.le_refl _) _)⟩

set_option maxRecDepth 100000 in
set_option maxHeartbeats 2000000 in
theorem lay_bytes (B m b : Nat) (w : World) (pv : Value) (AS : List Value) (P : List Pl) (x y z u : Nat) (hM : MRep B m w pv AS P) (hP : P.length ≤ 1000000) (hBw : B ≤ w.heap.size) :
    Calls Try.prog 25 #[.pointer (some ⟨m, 0, none⟩), nodeV 1 x y z u noKids, .int .i64 (b : Int)] w (LayP B m w pv AS (P.length, P ++ [⟨.bytes x y z u, b, []⟩])) := by
  obtain ⟨w0, e0⟩ : ∃ w0, w.alloc (.cells #[.int .i64 1, .int .u64 (x : Int), .int .u64 (y : Int), .int .u64 (z : Int), .int .u64 (u : Int), noKids] 28) = w0 := ⟨_, rfl⟩
  have hb0 : Below w.heap.size w w0 := by rw [← e0]; exact (Below.refl _ _).alloc (Nat.le_refl _) _
  have hz0 : w0.heap[w.heap.size]? = some (.cells #[.int .i64 1, .int .u64 (x : Int), .int .u64 (y : Int), .int .u64 (z : Int), .int .u64 (u : Int), noKids] 28 (0, 0)) := by rw [← e0]; exact new_block _ _
  have hs0 : w0.heap.size = w.heap.size + 1 := by rw [← e0]; simp
  have KA := hid (add_any B m w0 pv AS P (.bytes x y z u) b (hM.below hb0) hP (by omega))
  obtain ⟨p0, p1, p2, p3, p4, p5⟩ := cells6 hz0
  have HM := hid hM
  clear hM
  go_enter Try.func25, Try.ntmps25
  go_wp2_with fail
  refine KA.out.mono ?_
  rintro e w1 ⟨pv', rfl, hM', hl⟩
  have HM' := hid hM'
  have HL := hid hl
  clear hM' hl
  go_wp2_with fail
  go_ret
  exact ⟨pv', _, rfl, HM'.out, (LF.ofBelow hb0).trans HL.out⟩

set_option maxRecDepth 100000 in
set_option maxHeartbeats 4000000 in
theorem lay_cat (S : Nat → Prop) (B m b : Nat) (hS : ∀ g, S g → g < B) (w : World) (pv : Value) (AS : List Value) (P : List Pl) (l : List RX) (g cap : Nat) (hl : RepLS S w l g 0) (hSg : S g) (hgw : g < w.heap.size) (hcap : l.length ≤ cap) (hM : MRep B m w pv AS P) (hb : b < P.length) (hBd : X3.Bd P P.length) (hP : P.length + X3.sizeL l ≤ 100000) (hmu : X3.muL P + 4 * X3.sizeL l ≤ 1000000) (hBw : B ≤ w.heap.size)
    (ih : ∀ (k : Nat) (hk : k < l.length) (w : World) (v : Value) (b : Nat) (pv : Value) (AS : List Value) (P : List Pl), RepS S w l[k] v → MRep B m w pv AS P → b < P.length → X3.Bd P P.length → P.length + l[k].size ≤ 100000 → X3.muL P + 4 * l[k].size ≤ 1000000 → B ≤ w.heap.size → Calls Try.prog 25 #[.pointer (some ⟨m, 0, none⟩), v, .int .i64 (b : Int)] w (LayP B m w pv AS (X3.layX l[k] b P))) :
    Calls Try.prog 25 #[.pointer (some ⟨m, 0, none⟩), nodeV 2 0 0 0 0 (.slice (some ⟨g, 0, none⟩) l.length cap), .int .i64 (b : Int)] w (LayP B m w pv AS (X3.layCat l b P)) := by
  have IH := hid ih
  have HL := hid hl
  clear ih hl
  have hll : l.length ≤ 100000 := by have := length_le_sizeL l; omega
  obtain ⟨w0, e0⟩ : ∃ w0, w.alloc (.cells #[.int .i64 2, .int .u64 0, .int .u64 0, .int .u64 0, .int .u64 0, .slice (some ⟨g, 0, none⟩) l.length cap] 28) = w0 := ⟨_, rfl⟩
  have hb0 : Below w.heap.size w w0 := by rw [← e0]; exact (Below.refl _ _).alloc (Nat.le_refl _) _
  have hz0 : w0.heap[w.heap.size]? = some (.cells #[.int .i64 2, .int .u64 0, .int .u64 0, .int .u64 0, .int .u64 0, .slice (some ⟨g, 0, none⟩) l.length cap] 28 (0, 0)) := by rw [← e0]; exact new_block _ _
  have hs0 : w0.heap.size = w.heap.size + 1 := by rw [← e0]; simp
  have HM0 := hid (hM.below hb0)
  have HO := hid (fun (g : Nat) (ho : Own m pv AS g) => hM.own_ge ho)
  have HM := hid hM
  have HZ := hid hz0
  obtain ⟨p0, p1, p2, p3, p4, p5⟩ := cells6 hz0
  have hgB := hS g hSg
  have HBD := hid hBd
  have HSND := hid (fun (k : Nat) => X3.layCat_sound (l.drop k) b P hBd hb)
  clear hM hz0 hBd
  obtain ⟨RR, HRR⟩ : ∃ RR, Hid (RR = X3.layCat l b P) := ⟨_, hid rfl⟩
  rw [← HRR.out]
  go_enter Try.func25, Try.ntmps25
  go_wp2_with fail
  clear p0 p1 p2 p3 p4 p5 e0
  go_loopw [2, 7] (fun t2 t7 wr => ∃ (k : Nat) (pv' : Value) (AS' : List Value), k ≤ l.length ∧ t7 = .int .i64 ((k : Int) - 1) ∧ t2 = .int .i64 (((X3.layCat (l.drop k) b P).1 : Nat) : Int) ∧ MRep B m wr pv' AS' (X3.layCat (l.drop k) b P).2 ∧ LF w0 wr (Own m pv AS) (Own m pv' AS')) (fun _ t7 _ => (RowKit.intOf t7 + 1).toNat)
  case atStart => exact ⟨l.length, pv, AS, Nat.le_refl _, rfl, by rw [List.drop_length]; rfl, by rw [List.drop_length]; exact HM0.out, LF.ofBelow (Below.refl _ _)⟩
  case round =>
    obtain ⟨k, pv', AS', hk, rfl, rfl, hMr, hF⟩ := hrel
    have hBr : Below B w0 wr := hF.below HM0.out (by omega)
    have hsz := hF.size
    have hbox := (hF.same w.heap.size (by omega) (fun ho => by have := (HO.out _ ho).2; omega)).trans HZ.out
    obtain ⟨p0, p1, p2, p3, p4, p5⟩ := cells6 hbox
    cases k with
    | zero =>
      have h1 : ¬ (0 : Int) ≤ ((0 : Nat) : Int) - 1 := by decide
      rw [List.drop_zero, ← HRR.out] at hMr
      have hR1 : (X3.layCat (l.drop 0) b P).1 = RR.1 := by rw [List.drop_zero, HRR.out]
      simp only [hR1]
      have HMr := hid hMr
      have HF := hid hF
      clear hMr hF hbox p0 p1 p2 p3 p4 p5 hR1
      go_wp2_with fail
      go_ret
      exact ⟨pv', AS', rfl, HMr.out, (LF.ofBelow hb0).trans HF.out⟩
    | succ k =>
      have hlt : k < l.length := by omega
      obtain ⟨kd', x', y', z', u', kv', hR, c0, c1, c2, c3, c4, c5⟩ := RepLS.at_ (HL.out.kept (keepS_B hS ((Below.refl B w).trans ((hb0.mono hBw).trans hBr))) hSg hgw) k hlt
      rw [Nat.zero_add] at c0 c1 c2 c3 c4 c5
      obtain ⟨ko, kn, kc, rfl⟩ := hR.slice
      have hsnd := HSND.out (k + 1)
      have hsl := X3.sizeL_le_drop l k hlt
      have KI := hid (IH.out k hlt wr _ (X3.layCat (l.drop (k + 1)) b P).1 pv' AS' (X3.layCat (l.drop (k + 1)) b P).2 hR hMr hsnd.2.1 hsnd.1 (by have := hsnd.2.2.1; omega) (by have := hsnd.2.2.2; omega) (by omega))
      have HST : Hid (X3.layX l[k] (X3.layCat (l.drop (k + 1)) b P).1 (X3.layCat (l.drop (k + 1)) b P).2 = X3.layCat (l.drop k) b P) := hid (by rw [List.drop_eq_getElem_cons hlt]; rfl)
      rw [HST.out] at KI
      have ek : (((k + 1 : Nat) : Int) - 1) = (k : Int) := by omega
      have h1 : (0 : Int) ≤ (k : Int) := by omega
      have h2 : (k : Int) < (l.length : Int) := by omega
      have HF := hid hF
      simp only [ek]
      clear hMr hR hF hsnd
      generalize (X3.layCat (l.drop (k + 1)) b P).1 = bb at *
      go_wp2_with fail
      refine KI.out.mono ?_
      rintro e w2 ⟨pv2, AS2, rfl, hM2, hF2⟩
      have HM2 := hid hM2
      have HF2 := hid hF2
      clear hM2 hF2
      go_wp2_with fail
      refine ⟨⟨k, pv2, AS2, by omega, rfl, rfl, HM2.out, HF.out.trans HF2.out⟩, ?_⟩
      show ((k : Int) - 1 + 1).toNat < ((k : Int) + 1).toNat
      omega

theorem MRep.cellat {B m : Nat} {w : World} {pg n cap : Nat} {AS : List Value} {P : List Pl} (h : MRep B m w (.slice (some ⟨pg, 0, none⟩) n cap) AS P) {k : Nat} {pl : Pl} {av : Value} (hp : P[k]? = some pl) (hk : AS[k]? = some av) :
    (∀ j, j < 8 → w.cell? ⟨pg, k * 8 + j, none⟩ = (plc pl av)[j]?) ∧ (∀ j, w.frozen? ⟨pg, j, none⟩ = false) ∧ n = P.length ∧ n ≤ cap := by
  have hkl : k < P.length := (List.getElem?_eq_some_iff.1 hp).1
  rcases h.row.2 with ⟨hv, _⟩ | ⟨g, cap', cur, hv, hB, hg, hc, hcm, hs, ht⟩
  · cases hv
  · injection hv with h1 h2 h3
    have h1' : pg = g := by injection h1 with h1; injection h1
    subst h1' h2 h3
    refine ⟨fun j hj => ?_, fun j => Lib.frozen_of_heap hg j, rfl, hc⟩
    rw [Lib.cell_of_heap hg, ← cellsP_at P AS k pl av h.lenA hp hk j hj, ← ht, List.getElem?_take, if_pos (by omega), Array.getElem?_toList]

theorem plc7 (pl : Pl) (av : Value) : (plc pl av)[7]? = some av := by
  obtain ⟨k, x, y, z, u, h, -⟩ := bcs_shape pl.b
  simp [plc, h]
theorem MRep.sl {B m : Nat} {w : World} {pv : Value} {AS : List Value} {P : List Pl} (h : MRep B m w pv AS P) (h0 : 0 < P.length) : ∃ pg cap, pv = .slice (some ⟨pg, 0, none⟩) P.length cap := by
  rcases h.row.2 with ⟨_, h3⟩ | ⟨g, cap', cur, hv, _⟩
  · omega
  · exact ⟨g, cap', hv⟩

set_option maxRecDepth 100000 in
set_option maxHeartbeats 4000000 in
theorem lay_star (S : Nat → Prop) (B m b : Nat) (hS : ∀ g, S g → g < B) (w : World) (pv : Value) (AS : List Value) (P : List Pl) (r : RX) (kv : Value) (hR : RepS S w (.star r) (nodeV 4 0 0 0 0 kv)) (hM : MRep B m w pv AS P) (hb : b < P.length) (hBd : X3.Bd P P.length) (hP : P.length + (1 + r.size) ≤ 100000) (hmu : X3.muL P + 4 * (1 + r.size) ≤ 1000000) (hBw : B ≤ w.heap.size)
    (ih : ∀ (w : World) (v : Value) (b : Nat) (pv : Value) (AS : List Value) (P : List Pl), RepS S w r v → MRep B m w pv AS P → b < P.length → X3.Bd P P.length → P.length + r.size ≤ 100000 → X3.muL P + 4 * r.size ≤ 1000000 → B ≤ w.heap.size → Calls Try.prog 25 #[.pointer (some ⟨m, 0, none⟩), v, .int .i64 (b : Int)] w (LayP B m w pv AS (X3.layX r b P))) :
    Calls Try.prog 25 #[.pointer (some ⟨m, 0, none⟩), nodeV 4 0 0 0 0 kv, .int .i64 (b : Int)] w (LayP B m w pv AS (X3.layX (.star r) b P)) := by
  have IH := hid ih
  clear ih
  obtain ⟨ko, kn, kc, rfl⟩ := hR.slice
  obtain ⟨w0, e0⟩ : ∃ w0, w.alloc (.cells #[.int .i64 4, .int .u64 0, .int .u64 0, .int .u64 0, .int .u64 0, .slice ko kn kc] 28) = w0 := ⟨_, rfl⟩
  have hb0 : Below w.heap.size w w0 := by rw [← e0]; exact (Below.refl _ _).alloc (Nat.le_refl _) _
  have hz0 : w0.heap[w.heap.size]? = some (.cells #[.int .i64 4, .int .u64 0, .int .u64 0, .int .u64 0, .int .u64 0, .slice ko kn kc] 28 (0, 0)) := by rw [← e0]; exact new_block _ _
  have hs0 : w0.heap.size = w.heap.size + 1 := by rw [← e0]; simp
  have HM0 := hid (hM.below hb0)
  have HO := hid (fun (g : Nat) (ho : Own m pv AS g) => hM.own_ge ho)
  have KA := hid (add_any B m w0 pv AS P .empty 0 (hM.below hb0) (by omega) (by omega))
  have HR := hid hR
  have HBD := hid hBd
  have HZ := hid hz0
  obtain ⟨p0, p1, p2, p3, p4, p5⟩ := cells6 hz0
  clear hM hR hBd hz0
  obtain ⟨RR, HRR⟩ : ∃ RR, Hid (RR = X3.layX (.star r) b P) := ⟨_, hid rfl⟩
  rw [← HRR.out]
  go_enter Try.func25, Try.ntmps25
  go_wp2_with fail
  refine KA.out.mono ?_
  rintro e w1 ⟨pv1, rfl, hM1, hF1⟩
  have hsz1 := hF1.size
  have hbox := (hF1.same w.heap.size (by omega) (fun ho => by have := (HO.out _ ho).2; omega)).trans HZ.out
  have hB1 : Below B w w1 := (hb0.mono hBw).trans (hF1.below HM0.out (by omega))
  obtain ⟨vk, hRk, hK⟩ := kid_any (HR.out.kept (keepS_B hS hB1))
  have HK := hid hK
  have HRk := hid hRk
  have HM1 := hid hM1
  have HF1 := hid hF1
  clear p0 p1 p2 p3 p4 p5 hM1 hF1 hRk hK
  obtain ⟨p0, p1, p2, p3, p4, p5⟩ := cells6 hbox
  clear hbox
  go_wp2_with fail
  refine HK.out.mono ?_
  rintro e w2 ⟨rfl, hb2⟩
  have hs2 := hb2.size
  have hlP : (P ++ [X3.none_]).length = P.length + 1 := by simp
  have hBd1 : X3.Bd (P ++ [X3.none_]) (P ++ [X3.none_]).length := (HBD.out.mono (by simp)).app (by simp [X3.none_]) (by simp [X3.none_])
  have KI := hid (IH.out w2 _ P.length pv1 _ (P ++ [X3.none_]) (HRk.out.kept (keepS_below hb2)) (HM1.out.below hb2) (by omega) hBd1 (by omega) (by rw [X3.muL_app]; simp [X3.none_]; omega) (by omega))
  have HM2 := hid (HM1.out.below hb2)
  have HSND := hid (X3.lay_sound r P.length (P ++ [X3.none_]) hBd1 (by omega))
  have HKEEP := hid (X3.lay_keep r P.length (P ++ [X3.none_]))
  have HRX : Hid (RR = (P.length, X3.setAlso (X3.layX r P.length (P ++ [X3.none_])).2 P.length [b, (X3.layX r P.length (P ++ [X3.none_])).1])) := HRR
  clear p0 p1 p2 p3 p4 p5 HRR HM1 hBd1
  generalize hLX : X3.layX r P.length (P ++ [X3.none_]) = LX at *
  clear hLX
  obtain ⟨f, P2⟩ := LX
  go_wp2_with fail
  refine KI.out.mono ?_
  rintro e w3 ⟨pv2, AS2, rfl, hM3, hF3⟩
  have hk1 := HKEEP.out.1
  rw [hlP] at hk1
  replace hk1 : P.length + 1 ≤ P2.length := hk1
  have hp2 : P2[P.length]? = some X3.none_ := by
    have := HKEEP.out.2 P.length (by omega)
    rw [List.getElem?_append_right (Nat.le_refl _), Nat.sub_self] at this
    exact this
  obtain ⟨pg, cap2, rfl⟩ := hM3.sl (by show 0 < P2.length; omega)
  replace hM3 : MRep B m w3 (.slice (some ⟨pg, 0, none⟩) P2.length cap2) AS2 P2 := hM3
  obtain ⟨av0, hav0⟩ : ∃ av0, AS2[P.length]? = some av0 := ⟨_, List.getElem?_eq_getElem (by rw [hM3.lenA]; omega)⟩
  have hs3 := hF3.size
  have cm : w3.cell? ⟨m, 0, none⟩ = some (.slice (some ⟨pg, 0, none⟩) P2.length cap2) := by rw [Lib.cell_of_heap hM3.box]; rfl
  have h1 : (P.length : Int) < (P2.length : Int) := by omega
  obtain ⟨w4, e4⟩ : ∃ w4, w3.alloc (.cells #[.int .i64 (b : Int), .int .i64 (f : Int)] 3) = w4 := ⟨_, rfl⟩
  have hb4 : Below w3.heap.size w3 w4 := by rw [← e4]; exact (Below.refl _ _).alloc (Nat.le_refl _) _
  have hn4 : w4.heap[w3.heap.size]? = some (.cells #[.int .i64 (b : Int), .int .i64 (f : Int)] 3 (0, 0)) := by rw [← e4]; exact new_block _ _
  have hg4 : w3.grownBy w4 av0.ownBlock := by rw [← e4]; exact World.grownBy_alloc _ _ _
  have hM4 := hM3.below hb4
  obtain ⟨hc4, hf4, -, -⟩ := hM4.cellat hp2 hav0
  have c7 := (hc4 7 (by decide)).trans (plc7 _ _)
  have f7 := hf4 (P.length * 8 + 7)
  have hown : w4.ownsRow B 3 1 (.slice (some ⟨w3.heap.size, 0, none⟩) 2 2) [b, f].length ([b, f].map fun (q : Nat) => Value.int .i64 (q : Int)) := ⟨rfl, .inr ⟨w3.heap.size, 2, _, rfl, by omega, hn4, Nat.le_refl _, by decide, rfl, rfl⟩⟩
  have HF := hid (hM3.restored hav0 hg4 hown (.inr ⟨_, rfl, Nat.le_refl _⟩))
  have HL := hid (LF.restored (j := P.length * 8 + 7) hM3 hav0 hg4 (.inr ⟨_, rfl, Nat.le_refl _⟩) (av := .slice (some ⟨w3.heap.size, 0, none⟩) 2 2))
  have HF3 := hid hF3
  clear hM3 hM4 hc4 hf4 hown hg4 hF3
  go_wp2_with fail
  go_ret
  have hRX := HRX.out
  subst hRX
  exact ⟨_, _, rfl, HF.out, (LF.ofBelow hb0).trans (HF1.out.trans ((LF.ofBelow hb2).trans (HF3.out.trans HL.out)))⟩

end Go.Proofs.Ytndefngkkikkeaa
