/- nfa's machine: lay, again and again. -/
import Derived.Test.YtochckefnjobhaaDoorNf
namespace Go.Proofs.YtochckefnjobhaaDoor
open Go Go.RowKit Go.Lib
open X3 (RX Pl)
set_option linter.unusedVariables false
set_option linter.unusedSimpArgs false

set_option maxRecDepth 100000 in
set_option maxHeartbeats 8000000 in
theorem lay_star (T : Nat → Nat) (S : Nat → Prop) (B m b : Nat) (hS : ∀ g, S g → g < B) (w : World) (pv : Value) (AS : List Value) (P : List Pl) (r : RX) (g cap : Nat) (hl : RepLS S w [r] g 0) (hSg : S g) (hgw : g < w.heap.size) (hcap : 1 ≤ cap) (hM : MRep T B m w pv AS P)
    (hb : b < P.length) (hBd : X3.Bd P P.length) (hP : P.length + (1 + r.size) * (1 + r.size) * (1 + r.size) ≤ 100000000000) (hmu0 : X3.muL P + 4 * ((1 + r.size) * (1 + r.size) * (1 + r.size)) ≤ 1000000000000) (hBw : B ≤ w.heap.size) (hN : r.size ≤ 1000000)
    (hT : ∀ k, P.length ≤ k → k < (X3.layX (.star r) b P).2.length → T k = 0)
    (ih : ∀ (T : Nat → Nat) (w : World) (v : Value) (b : Nat) (pv : Value) (AS : List Value) (P : List Pl), RepS S w r v → MRep T B m w pv AS P → b < P.length → X3.Bd P P.length → P.length + r.size * r.size * r.size ≤ 100000000000 → X3.muL P + 4 * (r.size * r.size * r.size) ≤ 1000000000000 → B ≤ w.heap.size →
      (∀ j, P.length ≤ j → j < (X3.layX r b P).2.length → T j = 0) → Calls Tryd.prog 33 #[.pointer (some ⟨m, 0, none⟩), v, .int .i64 (b : Int)] w (LayP T B m w pv AS (X3.layX r b P))) :
    Calls Tryd.prog 33 #[.pointer (some ⟨m, 0, none⟩), nodeV 4 0 0 0 0 (.slice (some ⟨g, 0, none⟩) 1 cap), .int .i64 (b : Int)] w (LayP T B m w pv AS (X3.layX (.star r) b P)) := by
  have IH := hid ih
  have HL := hid hl
  clear ih hl
  have hgB := hS g hSg
  have hc0 := X4.cube r.size r.size (Nat.le_refl _)
  have hse := X4.star_eq r b P
  have hl1 : (X3.layX (.star r) b P).2.length = (X3.layX r P.length (P ++ [X3.none_])).2.length := by simp only [X3.layX]; exact X3.setAlso_len _ _ _
  have hk1 := (X3.lay_keep r P.length (P ++ [X3.none_])).1
  simp only [List.length_append, List.length_singleton] at hk1
  obtain ⟨w0, e0, hB3⟩ := boxes3 m b 4 0 0 0 0 (.slice (some ⟨g, 0, none⟩) 1 cap) w
  have hb0 := hB3.bl
  have hs0 := hB3.sz
  have HM0 := hid (hM.below hb0)
  have HO := hid (fun (g : Nat) (ho : Own m pv AS g) => hM.own_ge ho)
  have HNO : Hid (∀ j, w.heap.size ≤ j → ¬ Own m pv AS j) := hid fun j hj ho => by have := (HO.out j ho).2; omega
  have KA := hid (add_any T B m w0 pv AS P .empty 0 0 (hT _ (Nat.le_refl _) (by omega)).symm (hM.below hb0) (by omega) (by omega))
  have HBD := hid hBd
  have HZ := hid hB3
  obtain ⟨p0, p1, p2, p3, p4, p5⟩ := cells6 hB3.h1
  have q0 := cell1 hB3.h0
  have q2 := cell1 hB3.h2
  clear hM hBd hB3
  have hlS : (X3.setAlso (P ++ [X3.none_]) P.length [b]).length = P.length + 1 := by rw [X3.setAlso_len]; simp
  have hBdS : X3.Bd (X3.setAlso (P ++ [X3.none_]) P.length [b]) (X3.setAlso (P ++ [X3.none_]) P.length [b]).length := by
    rw [hlS]
    exact ((HBD.out.mono (Nat.le_succ _)).app (by simp [X3.none_]) (by simp [X3.none_])).setAlso (by simp; omega)
  have hmS : X3.muL (X3.setAlso (P ++ [X3.none_]) P.length [b]) ≤ X3.muL P + 2 := by
    have := X3.muL_set (P ++ [X3.none_]) P.length [b]
    rw [X3.muL_app] at this
    have e1 : X3.none_.also.length = 0 := rfl
    have e2 : ([b] : List Nat).length = 1 := rfl
    omega
  have hTS : ∀ j, P.length + 1 ≤ j → j < (X3.layX r P.length (X3.setAlso (P ++ [X3.none_]) P.length [b])).2.length → T j = 0 := fun j h1 h2 => hT j (by omega) (by
    rw [← hse.2, X3.addAlso_len]; exact h2)
  obtain ⟨RR, HRR⟩ : ∃ RR, Hid (RR = X3.layX (.star r) b P) := ⟨_, hid rfl⟩
  have hR1 : Hid (RR.1 = P.length) := hid (by rw [HRR.out]; rfl)
  have hRS : Hid (RR.2 = X3.addAlso (X3.layX r P.length (X3.setAlso (P ++ [X3.none_]) P.length [b])).2 P.length (X3.layX r P.length (X3.setAlso (P ++ [X3.none_]) P.length [b])).1) := hid (by rw [HRR.out]; exact hse.2.symm)
  have HLS := hid hlS
  have HBDS := hid hBdS
  have HTS := hid hTS
  rw [← HRR.out]
  have hz0 : w.heap.size + 1 + 1 < w0.heap.size := by omega
  clear hse hl1 hk1 hs0 hlS hBdS hTS hT HRR
  go_enter Tryd.func33, Tryd.ntmps33
  go_wp2_with fail
  refine KA.out.mono ?_
  rintro e w1 ⟨pv1, rfl, hM1, hF1⟩
  have hsz1 := hF1.size
  have box0 := (hF1.same w.heap.size (by omega) (HNO.out _ (by omega))).trans HZ.out.h0
  have box1 := (hF1.same (w.heap.size + 1) (by omega) (HNO.out _ (by omega))).trans HZ.out.h1
  have box2 := (hF1.same (w.heap.size + 1 + 1) (by omega) (HNO.out _ (by omega))).trans HZ.out.h2
  have hB1 : Below B w w1 := (hb0.mono hBw).trans (hF1.below HM0.out (by omega))
  have HB1 := hid hB1
  have hnO1 : ∀ j, w.heap.size ≤ j → j < w0.heap.size → ¬ Own m pv1 (AS ++ [.slice none 0 0]) j := fun j h1 h2 ho => by
    rcases hF1.own j ho with h | h
    · exact HNO.out j h1 h
    · omega
  obtain ⟨pg, cap1, rfl⟩ := hM1.sl (by simp)
  have hln1 : (P ++ [X3.none_]).length = P.length + 1 := by simp
  replace hM1 : MRep T B m w1 (.slice (some ⟨pg, 0, none⟩) (P ++ [X3.none_]).length cap1) (AS ++ [.slice none 0 0]) (P ++ [X3.none_]) := hM1
  replace hF1 : LF w0 w1 (Own m pv AS) (Own m (.slice (some ⟨pg, 0, none⟩) (P ++ [X3.none_]).length cap1) (AS ++ [.slice none 0 0])) := hF1
  replace hnO1 : ∀ j, w.heap.size ≤ j → j < w0.heap.size → ¬ Own m (.slice (some ⟨pg, 0, none⟩) (P ++ [X3.none_]).length cap1) (AS ++ [.slice none 0 0]) j := hnO1
  rw [hln1] at hM1 hF1 hnO1
  have hp1 : (P ++ [X3.none_])[P.length]? = some X3.none_ := by simp
  have hav1 : (AS ++ [Value.slice none 0 0])[P.length]? = some (.slice none 0 0) := by
    have := hM1.lenA
    rw [List.getElem?_append_right (by simp at this; omega)]
    have e : P.length - AS.length = 0 := by simp at this; omega
    rw [e]; rfl
  obtain ⟨wd, hwd⟩ : ∃ wd, w1.drew = wd := ⟨_, rfl⟩
  have hbd : Below w1.heap.size w1 wd := by rw [← hwd]; exact (Below.refl _ _).drew
  have hsd : wd.heap.size = w1.heap.size := by rw [← hwd]; rfl
  have HMd := hid (hM1.below hbd)
  have HFd := hid (hF1.trans (LF.ofBelow hbd))
  have HNO1 := hid hnO1
  have d0 := (hbd.block w.heap.size (by omega)).trans box0
  have d1 := (hbd.block (w.heap.size + 1) (by omega)).trans box1
  have d2 := (hbd.block (w.heap.size + 1 + 1) (by omega)).trans box2
  have cd := HMd.out.cellat hp1 hav1
  have cm : wd.cell? ⟨m, 0, none⟩ = some (.slice (some ⟨pg, 0, none⟩) (P.length + 1) cap1) := by rw [Lib.cell_of_heap HMd.out.box]; rfl
  have c7 := (cd.1 7 (by decide)).trans (plc7 _ _ _)
  have ck := cell1 d0
  have cb := cell1 d2
  have h3 : (P.length : Int) < (P.length : Int) + 1 := by omega
  have h4 : (0 : Int) ≤ (P.length : Int) := by omega
  have HD := hid (And.intro d0 (And.intro d1 d2))
  have HAV := hid hav1
  have HP1 := hid hp1
  clear p0 p1 p2 p3 p4 p5 q0 q2 hM1 hF1 hB1 hnO1 hbd cd d0 d1 d2 box0 box1 box2 hln1 hp1 hav1 e0
  go_upto_region 22 with fail
  refine region_T 9 (fun w' => w'.cell? ⟨m, 0, none⟩ = some (.slice (some ⟨pg, 0, none⟩) (P.length + 1) cap1) ∧ w'.cell? ⟨w.heap.size, 0, none⟩ = some (.pointer (some ⟨m, 0, none⟩)) ∧ w'.cell? ⟨w.heap.size + 1 + 1, 0, none⟩ = some (.int .i64 (b : Int))) (by kernel_rfl) (by rw [hwd]; exact ⟨cm, ck, cb⟩) (fun inv hHeld => ?_)
  rw [hwd] at hHeld ⊢
  clear hwd
  refine anyT_take (i := 0) (oi := { dst := some 84, op := Op.load 39 (Operand.tmp 3), type := 39, pos := "nfa.go:133", after := #[], guard := none }) (v := ?_) rfl (by kernel_rfl) (by kernel_rfl) (by kernel_rfl) (by decide) (by decide) (by kernel_rfl) (by kernel_rfl) (fun _ _ _ h => h) (Or.inl ⟨by rfl, ?_⟩) hHeld inv (fun inv => ?_)
  rotate_left
  · intro w hSw
    try dsimp only at hSw
    go_simp
    try with_reducible rfl
  simp only [Act.put, List.setIfInBounds_toArray, List.set_cons_zero, List.set_cons_succ]
  refine anyT_take (i := 1) (oi := { dst := some 85, op := Op.nilCheck (Operand.tmp 84), type := 0, pos := "nfa.go:133", after := #[{ on := 0, ground := Ground.data }], guard := none }) (v := ?_) rfl (by kernel_rfl) (by kernel_rfl) (by kernel_rfl) (by decide) (by decide) (by kernel_rfl) (by kernel_rfl) (fun _ _ _ h => h) (Or.inl ⟨by rfl, ?_⟩) hHeld inv (fun inv => ?_)
  rotate_left
  · intro w hSw
    try dsimp only at hSw
    go_simp
    try with_reducible rfl
  simp only [Act.put, List.setIfInBounds_toArray, List.set_cons_zero, List.set_cons_succ]
  refine anyT_take (i := 2) (oi := { dst := some 86, op := Op.fieldAddr 71 (Operand.tmp 85) 0, type := 0, pos := "nfa.go:133", after := #[{ on := 1, ground := Ground.data }], guard := none }) (v := ?_) rfl (by kernel_rfl) (by kernel_rfl) (by kernel_rfl) (by decide) (by decide) (by kernel_rfl) (by kernel_rfl) (fun _ _ _ h => h) (Or.inl ⟨by rfl, ?_⟩) hHeld inv (fun inv => ?_)
  rotate_left
  · intro w hSw
    try dsimp only at hSw
    go_simp
    try with_reducible rfl
  simp only [Act.put, List.setIfInBounds_toArray, List.set_cons_zero, List.set_cons_succ]
  refine anyT_take (i := 3) (oi := { dst := some 87, op := Op.load 69 (Operand.tmp 86), type := 69, pos := "nfa.go:133", after := #[{ on := 2, ground := Ground.data }], guard := none }) (v := ?_) rfl (by kernel_rfl) (by kernel_rfl) (by kernel_rfl) (by decide) (by decide) (by kernel_rfl) (by kernel_rfl) (fun _ _ _ h => h) (Or.inl ⟨by rfl, ?_⟩) hHeld inv (fun inv => ?_)
  rotate_left
  · intro w hSw
    try dsimp only at hSw
    go_simp
    try with_reducible rfl
  simp only [Act.put, List.setIfInBounds_toArray, List.set_cons_zero, List.set_cons_succ]
  refine anyT_take (i := 4) (oi := { dst := some 88, op := Op.move (Operand.tmp 13), type := 3, pos := "nfa.go:133", after := #[], guard := none }) (v := ?_) rfl (by kernel_rfl) (by kernel_rfl) (by kernel_rfl) (by decide) (by decide) (by kernel_rfl) (by kernel_rfl) (fun _ _ _ h => h) (Or.inl ⟨by rfl, ?_⟩) hHeld inv (fun inv => ?_)
  rotate_left
  · intro w hSw
    try dsimp only at hSw
    go_simp
    try with_reducible rfl
  simp only [Act.put, List.setIfInBounds_toArray, List.set_cons_zero, List.set_cons_succ]
  refine anyT_take (i := 5) (oi := { dst := some 89, op := Op.load 3 (Operand.tmp 5), type := 3, pos := "nfa.go:133", after := #[], guard := none }) (v := ?_) rfl (by kernel_rfl) (by kernel_rfl) (by kernel_rfl) (by decide) (by decide) (by kernel_rfl) (by kernel_rfl) (fun _ _ _ h => h) (Or.inl ⟨by rfl, ?_⟩) hHeld inv (fun inv => ?_)
  rotate_left
  · intro w hSw
    try dsimp only at hSw
    go_simp
    try with_reducible rfl
  simp only [Act.put, List.setIfInBounds_toArray, List.set_cons_zero, List.set_cons_succ]
  obtain ⟨w4, e4⟩ : ∃ w4, wd.alloc (.cells #[.int .i64 (b : Int)] 3) = w4 := ⟨_, rfl⟩
  have hb4 : Below wd.heap.size wd w4 := by rw [← e4]; exact (Below.refl _ _).alloc (Nat.le_refl _) _
  have hn4 : w4.heap[wd.heap.size]? = some (.cells #[.int .i64 (b : Int)] 3 (0, 0)) := by rw [← e4]; exact new_block _ _
  have hg4 : wd.grownBy w4 (Value.slice none 0 0).ownBlock := by rw [← e4]; exact World.grownBy_alloc _ _ _
  have hs4 : w4.heap.size = wd.heap.size + 1 := by rw [← e4]; simp
  have HM4 := hid (HMd.out.below hb4)
  have cm4 : w4.cell? ⟨m, 0, none⟩ = some (.slice (some ⟨pg, 0, none⟩) (P.length + 1) cap1) := by rw [Lib.cell_of_heap HM4.out.box]; rfl
  have g0 := (hb4.block w.heap.size (by omega)).trans HD.out.1
  have g1 := (hb4.block (w.heap.size + 1) (by omega)).trans HD.out.2.1
  have g2 := (hb4.block (w.heap.size + 1 + 1) (by omega)).trans HD.out.2.2
  have ck4 := cell1 g0
  have cb4 := cell1 g2
  have cd4 := HM4.out.cellat HP1.out HAV.out
  have f7 := cd4.2.1 (P.length * 9 + 7)
  have hown : w4.ownsRow B 3 1 (.slice (some ⟨wd.heap.size, 0, none⟩) 1 1) [b].length ([b].map fun (q : Nat) => Value.int .i64 (q : Int)) := ⟨rfl, .inr ⟨wd.heap.size, 1, _, rfl, by omega, hn4, Nat.le_refl _, by decide, rfl, rfl⟩⟩
  have hRS4 := HMd.out.restored HAV.out hg4 hown (.inr ⟨_, rfl, Nat.le_refl _⟩)
  have HF4 : Hid (MRep T B m (w4.setCell ⟨pg, P.length * 9 + 7, none⟩ (.slice (some ⟨wd.heap.size, 0, none⟩) 1 1)) (.slice (some ⟨pg, 0, none⟩) (P.length + 1) cap1) ((AS ++ [Value.slice none 0 0]).set P.length (.slice (some ⟨wd.heap.size, 0, none⟩) 1 1)) (X3.setAlso (P ++ [X3.none_]) P.length [b])) := hid hRS4
  have HL4 := hid (LF.restored (j := P.length * 9 + 7) HMd.out HAV.out hg4 (.inr ⟨_, rfl, Nat.le_refl _⟩) (av := .slice (some ⟨wd.heap.size, 0, none⟩) 1 1))
  have HG4 := hid (And.intro g0 (And.intro g1 g2))
  have HS4 := hid (And.intro hsd hs4)
  have c74 := (cd4.1 7 (by decide)).trans (plc7 _ _ _)
  clear hown hRS4 hn4 hg4 cd4 g0 g1 g2 hsd
  have hws : wd.heap.size < w4.heap.size := by omega
  clear hs4
  refine anyT_next (i := 6) (o := { dst := some 90, op := Op.buildSlice 56 1 #[(0, Operand.tmp 89)], type := 56, pos := "nfa.go:133", after := #[{ on := 5, ground := Ground.data }], guard := none }) (by kernel_rfl) rfl (by decide) inv (fun inv K' hK => ?_)
  go_simp
  refine hK.out _ _ ⟨cm4, ck4, cb4⟩ ?_
  clear hK K'
  try simp only [Act.put, List.setIfInBounds_toArray, List.set_cons_zero, List.set_cons_succ]
  refine anyT_take (i := 7) (oi := { dst := some 91, op := Op.indexAddr 69 (Operand.tmp 87) (Operand.tmp 88), type := 0, pos := "nfa.go:133", after := #[{ on := 3, ground := Ground.data }, { on := 4, ground := Ground.data }, { on := 0, ground := Ground.phase }, { on := 1, ground := Ground.phase }, { on := 2, ground := Ground.phase }, { on := 3, ground := Ground.phase }, { on := 4, ground := Ground.phase }, { on := 5, ground := Ground.phase }, { on := 6, ground := Ground.phase }], guard := none }) (v := ?_) rfl (by kernel_rfl) (by kernel_rfl) (by kernel_rfl) (by decide) (by decide) (by kernel_rfl) (by kernel_rfl) (fun _ _ _ h => h) (Or.inl ⟨by rfl, ?_⟩) ⟨cm4, ck4, cb4⟩ inv (fun inv => ?_)
  rotate_left
  · intro w hSw
    try dsimp only at hSw
    go_simp
    try with_reducible rfl
  simp only [Act.put, List.setIfInBounds_toArray, List.set_cons_zero, List.set_cons_succ]
  refine anyT_take (i := 8) (oi := { dst := some 92, op := Op.fieldAddr 75 (Operand.tmp 91) 2, type := 0, pos := "nfa.go:133", after := #[{ on := 7, ground := Ground.data }, { on := 0, ground := Ground.phase }, { on := 1, ground := Ground.phase }, { on := 2, ground := Ground.phase }, { on := 3, ground := Ground.phase }, { on := 4, ground := Ground.phase }, { on := 5, ground := Ground.phase }, { on := 6, ground := Ground.phase }], guard := none }) (v := ?_) rfl (by kernel_rfl) (by kernel_rfl) (by kernel_rfl) (by decide) (by decide) (by kernel_rfl) (by kernel_rfl) (fun _ _ _ h => h) (Or.inl ⟨by rfl, ?_⟩) ⟨cm4, ck4, cb4⟩ inv (fun inv => ?_)
  rotate_left
  · intro w hSw
    try dsimp only at hSw
    go_simp
    try with_reducible rfl
  simp only [Act.put, List.setIfInBounds_toArray, List.set_cons_zero, List.set_cons_succ]
  refine anyT_one (i := 9) (o := { dst := none, op := Op.store 56 (Operand.tmp 92) (Operand.tmp 90), type := 0, pos := "nfa.go:133", after := #[{ on := 8, ground := Ground.data }, { on := 6, ground := Ground.data }, { on := 0, ground := Ground.phase }, { on := 1, ground := Ground.phase }, { on := 2, ground := Ground.phase }, { on := 3, ground := Ground.phase }, { on := 4, ground := Ground.phase }, { on := 5, ground := Ground.phase }, { on := 6, ground := Ground.phase }], guard := none }) (by kernel_rfl) rfl (fun K' hK => ?_)
  go_simp
  refine hK.out _ _ (fun h => absurd h (by decide)) ?_
  clear hK K'
  try simp only [Act.put, List.setIfInBounds_toArray, List.set_cons_zero, List.set_cons_succ]
  refine anyT_done (by kernel_rfl) ?_ _
  generalize w4.setCell ⟨pg, P.length * 9 + 7, none⟩ (.slice (some ⟨wd.heap.size, 0, none⟩) 1 1) = w5 at HF4 HL4 ⊢
  generalize (AS ++ [Value.slice none 0 0]).set P.length (.slice (some ⟨wd.heap.size, 0, none⟩) 1 1) = AS5 at HF4 HL4
  have hF5 := HFd.out.trans HL4.out
  have hs5 := hF5.size
  have hB5 : Below B w w5 := (hb0.mono hBw).trans (hF5.below HM0.out (by omega))
  have hnO5 : ∀ j, w.heap.size ≤ j → j < w0.heap.size → ¬ Own m (.slice (some ⟨pg, 0, none⟩) (P.length + 1) cap1) AS5 j := fun j h1 h2 ho => by
    rcases hF5.own j ho with h | h
    · exact HNO.out j h1 h
    · omega
  have b0 := (hF5.same w.heap.size (by omega) (HNO.out _ (by omega))).trans HZ.out.h0
  have b1 := (hF5.same (w.heap.size + 1) (by omega) (HNO.out _ (by omega))).trans HZ.out.h1
  have b2 := (hF5.same (w.heap.size + 1 + 1) (by omega) (HNO.out _ (by omega))).trans HZ.out.h2
  obtain ⟨wd2, hwd2⟩ : ∃ wd2, w5.drew = wd2 := ⟨_, rfl⟩
  have hbd2 : Below w5.heap.size w5 wd2 := by rw [← hwd2]; exact (Below.refl _ _).drew
  have r0 := (hbd2.block w.heap.size (by omega)).trans b0
  have r1 := (hbd2.block (w.heap.size + 1) (by omega)).trans b1
  have hB6 : Below B w wd2 := hB5.trans (hbd2.mono (by omega))
  obtain ⟨kd', x', y', z', u', kv', hR, c0, c1, c2, c3, c4, c5⟩ := RepLS.at_ (HL.out.kept (keepS_B hS hB6) hSg hgw) 0 (by simp)
  obtain ⟨ko, kn, kc, rfl⟩ := hR.slice
  replace hR : RepS S wd2 r _ := hR
  replace c0 : wd2.cell? ⟨g, 0, none⟩ = _ := c0
  replace c1 : wd2.cell? ⟨g, 1, none⟩ = _ := c1
  replace c2 : wd2.cell? ⟨g, 2, none⟩ = _ := c2
  replace c3 : wd2.cell? ⟨g, 3, none⟩ = _ := c3
  replace c4 : wd2.cell? ⟨g, 4, none⟩ = _ := c4
  replace c5 : wd2.cell? ⟨g, 5, none⟩ = _ := c5
  obtain ⟨p0, p1, p2, p3, p4, p5⟩ := cells6 b1
  obtain ⟨s0, s1, s2, s3, s4, s5⟩ := cells6 r1
  have t0 := cell1 r0
  have KI := hid (IH.out T wd2 _ P.length (.slice (some ⟨pg, 0, none⟩) (P.length + 1) cap1) AS5 (X3.setAlso (P ++ [X3.none_]) P.length [b]) hR (HF4.out.below hbd2) (by rw [HLS.out]; omega) HBDS.out (by rw [HLS.out]; omega) (by omega) (by have := hbd2.size; omega) (fun j h1 h2 => HTS.out j (by rw [HLS.out] at h1; exact h1) h2))
  have HSND := hid (X3.lay_sound r P.length (X3.setAlso (P ++ [X3.none_]) P.length [b]) HBDS.out (by rw [HLS.out]; omega))
  have HKEEP := hid (X3.lay_keep r P.length (X3.setAlso (P ++ [X3.none_]) P.length [b]))
  have HF5 := hid (hF5.trans (LF.ofBelow hbd2))
  have HM5 := hid HF4.out
  have HNO5 := hid hnO5
  have HR0 := hid r0
  have hs6 := hbd2.size
  clear hR hF5 hB5 hB6 hnO5 b0 b1 b2 r0 r1 HF4 HL4 HG4 HS4 HM4 HMd HFd HD HAV HP1 IH KA cm c7 ck cb cm4 ck4 cb4 f7 c74 hHeld inv e4 hb4
  go_wp2_with fail
  go_upto_region 24 with fail
  refine region_T 7 (fun w' => w'.cell? ⟨w.heap.size, 0, none⟩ = some (.pointer (some ⟨m, 0, none⟩)) ∧ w'.cell? ⟨w.heap.size + 1, 5, none⟩ = some (.slice (some ⟨g, 0, none⟩) 1 cap) ∧ w'.cell? ⟨g, 0, none⟩ = some (.int .i64 kd') ∧ w'.cell? ⟨g, 1, none⟩ = some (.int .u64 x') ∧ w'.cell? ⟨g, 2, none⟩ = some (.int .u64 y') ∧ w'.cell? ⟨g, 3, none⟩ = some (.int .u64 z') ∧ w'.cell? ⟨g, 4, none⟩ = some (.int .u64 u') ∧ w'.cell? ⟨g, 5, none⟩ = some (.slice ko kn kc)) (by kernel_rfl) (by rw [hwd2]; exact ⟨t0, s5, c0, c1, c2, c3, c4, c5⟩) (fun inv hHeld => ?_)
  rw [hwd2] at hHeld ⊢
  clear hwd2
  refine anyT_take (i := 0) (oi := { dst := some 97, op := Op.load 39 (Operand.tmp 3), type := 39, pos := "nfa.go:135", after := #[], guard := none }) (v := ?_) rfl (by kernel_rfl) (by kernel_rfl) (by kernel_rfl) (by decide) (by decide) (by kernel_rfl) (by kernel_rfl) (fun _ _ _ h => h) (Or.inl ⟨by rfl, ?_⟩) hHeld inv (fun inv => ?_)
  rotate_left
  · intro w hSw
    try dsimp only at hSw
    go_simp
    try with_reducible rfl
  simp only [Act.put, List.setIfInBounds_toArray, List.set_cons_zero, List.set_cons_succ]
  refine anyT_take (i := 1) (oi := { dst := some 98, op := Op.fieldAddr 38 (Operand.tmp 4) 2, type := 0, pos := "nfa.go:135", after := #[], guard := none }) (v := ?_) rfl (by kernel_rfl) (by kernel_rfl) (by kernel_rfl) (by decide) (by decide) (by kernel_rfl) (by kernel_rfl) (fun _ _ _ h => h) (Or.inl ⟨by rfl, ?_⟩) hHeld inv (fun inv => ?_)
  rotate_left
  · intro w hSw
    try dsimp only at hSw
    go_simp
    try with_reducible rfl
  simp only [Act.put, List.setIfInBounds_toArray, List.set_cons_zero, List.set_cons_succ]
  refine anyT_take (i := 2) (oi := { dst := some 99, op := Op.load 24 (Operand.tmp 98), type := 24, pos := "nfa.go:135", after := #[{ on := 1, ground := Ground.data }], guard := none }) (v := ?_) rfl (by kernel_rfl) (by kernel_rfl) (by kernel_rfl) (by decide) (by decide) (by kernel_rfl) (by kernel_rfl) (fun _ _ _ h => h) (Or.inl ⟨by rfl, ?_⟩) hHeld inv (fun inv => ?_)
  rotate_left
  · intro w hSw
    try dsimp only at hSw
    go_simp
    try with_reducible rfl
  simp only [Act.put, List.setIfInBounds_toArray, List.set_cons_zero, List.set_cons_succ]
  refine anyT_take (i := 3) (oi := { dst := some 100, op := Op.indexAddr 24 (Operand.tmp 99) (Operand.const (Value.int IntKind.i64 0)), type := 0, pos := "nfa.go:135", after := #[{ on := 2, ground := Ground.data }], guard := none }) (v := ?_) rfl (by kernel_rfl) (by kernel_rfl) (by kernel_rfl) (by decide) (by decide) (by kernel_rfl) (by kernel_rfl) (fun _ _ _ h => h) (Or.inl ⟨by rfl, ?_⟩) hHeld inv (fun inv => ?_)
  rotate_left
  · intro w hSw
    try dsimp only at hSw
    go_simp
    try with_reducible rfl
  simp only [Act.put, List.setIfInBounds_toArray, List.set_cons_zero, List.set_cons_succ]
  refine anyT_take (i := 4) (oi := { dst := some 101, op := Op.load 38 (Operand.tmp 100), type := 38, pos := "nfa.go:135", after := #[{ on := 3, ground := Ground.data }], guard := none }) (v := ?_) rfl (by kernel_rfl) (by kernel_rfl) (by kernel_rfl) (by decide) (by decide) (by kernel_rfl) (by kernel_rfl) (fun _ _ _ h => h) (Or.inl ⟨by rfl, ?_⟩) hHeld inv (fun inv => ?_)
  rotate_left
  · intro w hSw
    try dsimp only at hSw
    go_simp
    try with_reducible rfl
  simp only [Act.put, List.setIfInBounds_toArray, List.set_cons_zero, List.set_cons_succ]
  refine anyT_take (i := 5) (oi := { dst := some 102, op := Op.move (Operand.tmp 13), type := 3, pos := "nfa.go:135", after := #[], guard := none }) (v := ?_) rfl (by kernel_rfl) (by kernel_rfl) (by kernel_rfl) (by decide) (by decide) (by kernel_rfl) (by kernel_rfl) (fun _ _ _ h => h) (Or.inl ⟨by rfl, ?_⟩) hHeld inv (fun inv => ?_)
  rotate_left
  · intro w hSw
    try dsimp only at hSw
    go_simp
    try with_reducible rfl
  simp only [Act.put, List.setIfInBounds_toArray, List.set_cons_zero, List.set_cons_succ]
  refine anyT_next (i := 6) (o := { dst := some 103, op := Op.call { callee := Callee.value (Operand.func 33), args := #[Operand.tmp 97, Operand.tmp 101, Operand.tmp 102], argTypes := #[39, 38, 3] }, type := 3, pos := "nfa.go:135", after := #[{ on := 0, ground := Ground.data }, { on := 4, ground := Ground.data }, { on := 5, ground := Ground.data }], guard := none }) (by kernel_rfl) rfl (by decide) inv (fun inv K' hK => ?_)
  go_simp
  have HS6 := hid (And.intro t0 (And.intro s5 (And.intro c0 (And.intro c1 (And.intro c2 (And.intro c3 (And.intro c4 c5)))))))
  have HM6 := hid (HM5.out.below hbd2)
  have HP12 : Hid (RR.2 = X3.addAlso (X3.layX r P.length (X3.setAlso (P ++ [X3.none_]) P.length [b])).2 P.length (X3.layX r P.length (X3.setAlso (P ++ [X3.none_]) P.length [b])).1) := hRS
  clear p0 p1 p2 p3 p4 p5 s0 s1 s2 s3 s4 s5 t0 c0 c1 c2 c3 c4 c5 hRS HBDS HTS hbd2
  generalize hP1e : X3.setAlso (P ++ [X3.none_]) P.length [b] = P1 at *
  clear hP1e
  generalize hLXe : X3.layX r P.length P1 = LX at *
  clear hLXe
  obtain ⟨f, P2⟩ := LX
  have hlP1 : P1.length = P.length + 1 := HLS.out
  refine KI.out.mono ?_
  rintro e w3 ⟨pv2, AS2, rfl, hM3, hF3⟩
  have hk1 : P1.length ≤ P2.length := HKEEP.out.1
  obtain ⟨pl0, hpl0⟩ : ∃ pl0, P2[P.length]? = some pl0 := ⟨_, List.getElem?_eq_getElem (by omega)⟩
  obtain ⟨pg2, cap2, rfl⟩ := hM3.sl (by show 0 < P2.length; omega)
  replace hM3 : MRep T B m w3 (.slice (some ⟨pg2, 0, none⟩) P2.length cap2) AS2 P2 := hM3
  obtain ⟨av0, hav0⟩ : ∃ av0, AS2[P.length]? = some av0 := ⟨_, List.getElem?_eq_getElem (by rw [hM3.lenA]; omega)⟩
  have hs3 := hF3.size
  have rb0 := (hF3.same w.heap.size (by omega) (HNO5.out _ (by omega) (by omega))).trans HR0.out
  have rb1 := World.cell?_of_block (a := ⟨w.heap.size + 1, 5, none⟩) (hF3.same (w.heap.size + 1) (by omega) (HNO5.out _ (by omega) (by omega)))
  have rbg := fun q => World.cell?_of_block (a := ⟨g, q, none⟩) ((hF3.below HM6.out (by omega)).block g hgB)
  have hd : w3.cell? ⟨w.heap.size, 0, none⟩ = some (.pointer (some ⟨m, 0, none⟩)) ∧ w3.cell? ⟨w.heap.size + 1, 5, none⟩ = some (.slice (some ⟨g, 0, none⟩) 1 cap) ∧ w3.cell? ⟨g, 0, none⟩ = some (.int .i64 kd') ∧ w3.cell? ⟨g, 1, none⟩ = some (.int .u64 x') ∧ w3.cell? ⟨g, 2, none⟩ = some (.int .u64 y') ∧ w3.cell? ⟨g, 3, none⟩ = some (.int .u64 z') ∧ w3.cell? ⟨g, 4, none⟩ = some (.int .u64 u') ∧ w3.cell? ⟨g, 5, none⟩ = some (.slice ko kn kc) := ⟨cell1 rb0, rb1.trans HS6.out.2.1, (rbg 0).trans HS6.out.2.2.1, (rbg 1).trans HS6.out.2.2.2.1, (rbg 2).trans HS6.out.2.2.2.2.1, (rbg 3).trans HS6.out.2.2.2.2.2.1, (rbg 4).trans HS6.out.2.2.2.2.2.2.1, (rbg 5).trans HS6.out.2.2.2.2.2.2.2⟩
  have h3 : (P.length : Int) < (P2.length : Int) := by omega
  have h4 : (0 : Int) ≤ (P.length : Int) := by omega
  have hal := X3.also_le_mu hpl0
  have hmu2 := HSND.out.mu
  replace hmu2 : X3.muL P2 ≤ X3.muL P1 + (4 * r.size - 1) := hmu2
  have hln2 : P2.length ≤ P1.length + r.size := HSND.out.len
  obtain ⟨wd, hwd⟩ : ∃ wd, w3.drew = wd := ⟨_, rfl⟩
  have hbd : Below w3.heap.size w3 wd := by rw [← hwd]; exact (Below.refl _ _).drew
  have hsd : wd.heap.size = w3.heap.size := by rw [← hwd]; rfl
  have HMd := hid (hM3.below hbd)
  have HFd := hid (hF3.trans (LF.ofBelow hbd))
  have rd0 := (hbd.block w.heap.size (by omega)).trans rb0
  have HRD := hid rd0
  have cd := HMd.out.cellat hpl0 hav0
  have cm : wd.cell? ⟨m, 0, none⟩ = some (.slice (some ⟨pg2, 0, none⟩) P2.length cap2) := by rw [Lib.cell_of_heap HMd.out.box]; rfl
  have c7 := (cd.1 7 (by decide)).trans (plc7 _ _ _)
  have ck := cell1 rd0
  have hOk : ∀ j, Own m (.slice (some ⟨pg2, 0, none⟩) P2.length cap2) AS2 j → j ≠ w.heap.size := fun j ho e => by
    subst e
    rcases hF3.own _ ho with h | h
    · exact HNO5.out _ (by omega) (by omega) h
    · omega
  have HOK := hid hOk
  clear hM3 hF3 hbd cd rd0 rb0 rb1 rbg hOk
  go_wp2_with fail
  refine hK.out _ _ hd ?_
  clear hK K' hd
  try simp only [Act.put, List.setIfInBounds_toArray, List.set_cons_zero, List.set_cons_succ]
  refine anyT_one (i := 7) (o := { dst := some 14, op := Op.assign (Operand.tmp 103), type := 3, pos := "nfa.go:135", after := #[{ on := 6, ground := Ground.data }, { on := 6, ground := Ground.chain }, { on := 0, ground := Ground.phase }, { on := 1, ground := Ground.phase }, { on := 2, ground := Ground.phase }, { on := 3, ground := Ground.phase }, { on := 4, ground := Ground.phase }, { on := 5, ground := Ground.phase }, { on := 6, ground := Ground.phase }], guard := none }) (by kernel_rfl) rfl (fun K' hK => ?_)
  go_simp
  refine hK.out _ _ (fun h => absurd h (by decide)) ?_
  clear hK K'
  try simp only [Act.put, List.setIfInBounds_toArray, List.set_cons_zero, List.set_cons_succ]
  refine anyT_done (by kernel_rfl) ?_ _
  clear hHeld inv
  go_upto_region 25 with fail
  refine region_T 18 (fun w' => w'.cell? ⟨m, 0, none⟩ = some (.slice (some ⟨pg2, 0, none⟩) P2.length cap2) ∧ w'.cell? ⟨pg2, P.length * 9 + 7, none⟩ = some av0 ∧ w'.cell? ⟨w.heap.size, 0, none⟩ = some (.pointer (some ⟨m, 0, none⟩))) (by kernel_rfl) (by rw [hwd]; exact ⟨cm, c7, ck⟩) (fun inv hHeld => ?_)
  rw [hwd] at hHeld ⊢
  clear hwd
  refine anyT_take (i := 0) (oi := { dst := some 104, op := Op.load 39 (Operand.tmp 3), type := 39, pos := "nfa.go:136", after := #[], guard := none }) (v := ?_) rfl (by kernel_rfl) (by kernel_rfl) (by kernel_rfl) (by decide) (by decide) (by kernel_rfl) (by kernel_rfl) (fun _ _ _ h => h) (Or.inl ⟨by rfl, ?_⟩) hHeld inv (fun inv => ?_)
  rotate_left
  · intro w hSw
    try dsimp only at hSw
    go_simp
    try with_reducible rfl
  simp only [Act.put, List.setIfInBounds_toArray, List.set_cons_zero, List.set_cons_succ]
  refine anyT_take (i := 1) (oi := { dst := some 105, op := Op.nilCheck (Operand.tmp 104), type := 0, pos := "nfa.go:136", after := #[{ on := 0, ground := Ground.data }], guard := none }) (v := ?_) rfl (by kernel_rfl) (by kernel_rfl) (by kernel_rfl) (by decide) (by decide) (by kernel_rfl) (by kernel_rfl) (fun _ _ _ h => h) (Or.inl ⟨by rfl, ?_⟩) hHeld inv (fun inv => ?_)
  rotate_left
  · intro w hSw
    try dsimp only at hSw
    go_simp
    try with_reducible rfl
  simp only [Act.put, List.setIfInBounds_toArray, List.set_cons_zero, List.set_cons_succ]
  refine anyT_take (i := 2) (oi := { dst := some 106, op := Op.fieldAddr 71 (Operand.tmp 105) 0, type := 0, pos := "nfa.go:136", after := #[{ on := 1, ground := Ground.data }], guard := none }) (v := ?_) rfl (by kernel_rfl) (by kernel_rfl) (by kernel_rfl) (by decide) (by decide) (by kernel_rfl) (by kernel_rfl) (fun _ _ _ h => h) (Or.inl ⟨by rfl, ?_⟩) hHeld inv (fun inv => ?_)
  rotate_left
  · intro w hSw
    try dsimp only at hSw
    go_simp
    try with_reducible rfl
  simp only [Act.put, List.setIfInBounds_toArray, List.set_cons_zero, List.set_cons_succ]
  refine anyT_take (i := 3) (oi := { dst := some 107, op := Op.load 69 (Operand.tmp 106), type := 69, pos := "nfa.go:136", after := #[{ on := 2, ground := Ground.data }], guard := none }) (v := ?_) rfl (by kernel_rfl) (by kernel_rfl) (by kernel_rfl) (by decide) (by decide) (by kernel_rfl) (by kernel_rfl) (fun _ _ _ h => h) (Or.inl ⟨by rfl, ?_⟩) hHeld inv (fun inv => ?_)
  rotate_left
  · intro w hSw
    try dsimp only at hSw
    go_simp
    try with_reducible rfl
  simp only [Act.put, List.setIfInBounds_toArray, List.set_cons_zero, List.set_cons_succ]
  refine anyT_take (i := 4) (oi := { dst := some 108, op := Op.move (Operand.tmp 13), type := 3, pos := "nfa.go:136", after := #[], guard := none }) (v := ?_) rfl (by kernel_rfl) (by kernel_rfl) (by kernel_rfl) (by decide) (by decide) (by kernel_rfl) (by kernel_rfl) (fun _ _ _ h => h) (Or.inl ⟨by rfl, ?_⟩) hHeld inv (fun inv => ?_)
  rotate_left
  · intro w hSw
    try dsimp only at hSw
    go_simp
    try with_reducible rfl
  simp only [Act.put, List.setIfInBounds_toArray, List.set_cons_zero, List.set_cons_succ]
  refine anyT_take (i := 5) (oi := { dst := some 109, op := Op.load 39 (Operand.tmp 3), type := 39, pos := "nfa.go:136", after := #[], guard := none }) (v := ?_) rfl (by kernel_rfl) (by kernel_rfl) (by kernel_rfl) (by decide) (by decide) (by kernel_rfl) (by kernel_rfl) (fun _ _ _ h => h) (Or.inl ⟨by rfl, ?_⟩) hHeld inv (fun inv => ?_)
  rotate_left
  · intro w hSw
    try dsimp only at hSw
    go_simp
    try with_reducible rfl
  simp only [Act.put, List.setIfInBounds_toArray, List.set_cons_zero, List.set_cons_succ]
  refine anyT_take (i := 6) (oi := { dst := some 110, op := Op.nilCheck (Operand.tmp 109), type := 0, pos := "nfa.go:136", after := #[{ on := 5, ground := Ground.data }], guard := none }) (v := ?_) rfl (by kernel_rfl) (by kernel_rfl) (by kernel_rfl) (by decide) (by decide) (by kernel_rfl) (by kernel_rfl) (fun _ _ _ h => h) (Or.inl ⟨by rfl, ?_⟩) hHeld inv (fun inv => ?_)
  rotate_left
  · intro w hSw
    try dsimp only at hSw
    go_simp
    try with_reducible rfl
  simp only [Act.put, List.setIfInBounds_toArray, List.set_cons_zero, List.set_cons_succ]
  refine anyT_take (i := 7) (oi := { dst := some 111, op := Op.fieldAddr 71 (Operand.tmp 110) 0, type := 0, pos := "nfa.go:136", after := #[{ on := 6, ground := Ground.data }], guard := none }) (v := ?_) rfl (by kernel_rfl) (by kernel_rfl) (by kernel_rfl) (by decide) (by decide) (by kernel_rfl) (by kernel_rfl) (fun _ _ _ h => h) (Or.inl ⟨by rfl, ?_⟩) hHeld inv (fun inv => ?_)
  rotate_left
  · intro w hSw
    try dsimp only at hSw
    go_simp
    try with_reducible rfl
  simp only [Act.put, List.setIfInBounds_toArray, List.set_cons_zero, List.set_cons_succ]
  refine anyT_take (i := 8) (oi := { dst := some 112, op := Op.load 69 (Operand.tmp 111), type := 69, pos := "nfa.go:136", after := #[{ on := 7, ground := Ground.data }], guard := none }) (v := ?_) rfl (by kernel_rfl) (by kernel_rfl) (by kernel_rfl) (by decide) (by decide) (by kernel_rfl) (by kernel_rfl) (fun _ _ _ h => h) (Or.inl ⟨by rfl, ?_⟩) hHeld inv (fun inv => ?_)
  rotate_left
  · intro w hSw
    try dsimp only at hSw
    go_simp
    try with_reducible rfl
  simp only [Act.put, List.setIfInBounds_toArray, List.set_cons_zero, List.set_cons_succ]
  refine anyT_take (i := 9) (oi := { dst := some 113, op := Op.move (Operand.tmp 13), type := 3, pos := "nfa.go:136", after := #[], guard := none }) (v := ?_) rfl (by kernel_rfl) (by kernel_rfl) (by kernel_rfl) (by decide) (by decide) (by kernel_rfl) (by kernel_rfl) (fun _ _ _ h => h) (Or.inl ⟨by rfl, ?_⟩) hHeld inv (fun inv => ?_)
  rotate_left
  · intro w hSw
    try dsimp only at hSw
    go_simp
    try with_reducible rfl
  simp only [Act.put, List.setIfInBounds_toArray, List.set_cons_zero, List.set_cons_succ]
  refine anyT_take (i := 10) (oi := { dst := some 114, op := Op.indexAddr 69 (Operand.tmp 112) (Operand.tmp 113), type := 0, pos := "nfa.go:136", after := #[{ on := 8, ground := Ground.data }, { on := 9, ground := Ground.data }], guard := none }) (v := ?_) rfl (by kernel_rfl) (by kernel_rfl) (by kernel_rfl) (by decide) (by decide) (by kernel_rfl) (by kernel_rfl) (fun _ _ _ h => h) (Or.inl ⟨by rfl, ?_⟩) hHeld inv (fun inv => ?_)
  rotate_left
  · intro w hSw
    try dsimp only at hSw
    go_simp
    try with_reducible rfl
  simp only [Act.put, List.setIfInBounds_toArray, List.set_cons_zero, List.set_cons_succ]
  refine anyT_take (i := 11) (oi := { dst := some 115, op := Op.fieldAddr 75 (Operand.tmp 114) 2, type := 0, pos := "nfa.go:136", after := #[{ on := 10, ground := Ground.data }], guard := none }) (v := ?_) rfl (by kernel_rfl) (by kernel_rfl) (by kernel_rfl) (by decide) (by decide) (by kernel_rfl) (by kernel_rfl) (fun _ _ _ h => h) (Or.inl ⟨by rfl, ?_⟩) hHeld inv (fun inv => ?_)
  rotate_left
  · intro w hSw
    try dsimp only at hSw
    go_simp
    try with_reducible rfl
  simp only [Act.put, List.setIfInBounds_toArray, List.set_cons_zero, List.set_cons_succ]
  refine anyT_take (i := 12) (oi := { dst := some 116, op := Op.load 56 (Operand.tmp 115), type := 56, pos := "nfa.go:136", after := #[{ on := 11, ground := Ground.data }], guard := none }) (v := ?_) rfl (by kernel_rfl) (by kernel_rfl) (by kernel_rfl) (by decide) (by decide) (by kernel_rfl) (by kernel_rfl) (fun _ _ _ h => h) (Or.inl ⟨by rfl, ?_⟩) hHeld inv (fun inv => ?_)
  rotate_left
  · intro w hSw
    try dsimp only at hSw
    go_simp
    try with_reducible rfl
  simp only [Act.put, List.setIfInBounds_toArray, List.set_cons_zero, List.set_cons_succ]
  refine anyT_take (i := 13) (oi := { dst := some 117, op := Op.move (Operand.tmp 14), type := 3, pos := "nfa.go:136", after := #[], guard := none }) (v := ?_) rfl (by kernel_rfl) (by kernel_rfl) (by kernel_rfl) (by decide) (by decide) (by kernel_rfl) (by kernel_rfl) (fun _ _ _ h => h) (Or.inl ⟨by rfl, ?_⟩) hHeld inv (fun inv => ?_)
  rotate_left
  · intro w hSw
    try dsimp only at hSw
    go_simp
    try with_reducible rfl
  simp only [Act.put, List.setIfInBounds_toArray, List.set_cons_zero, List.set_cons_succ]
  obtain ⟨w4, e4⟩ : ∃ w4, wd.alloc (.cells #[.int .i64 (f : Int)] 3) = w4 := ⟨_, rfl⟩
  have hb4 : Below wd.heap.size wd w4 := by rw [← e4]; exact (Below.refl _ _).alloc (Nat.le_refl _) _
  have hn4 : w4.heap[wd.heap.size]? = some (.cells #[.int .i64 (f : Int)] 3 (0, 0)) := by rw [← e4]; exact new_block _ _
  have hs4 : w4.heap.size = wd.heap.size + 1 := by rw [← e4]; simp
  have HM4 := hid (HMd.out.below hb4)
  have cd4 := HM4.out.cellat hpl0 hav0
  have cm4 : w4.cell? ⟨m, 0, none⟩ = some (.slice (some ⟨pg2, 0, none⟩) P2.length cap2) := by rw [Lib.cell_of_heap HM4.out.box]; rfl
  have c74 := (cd4.1 7 (by decide)).trans (plc7 _ _ _)
  have rk4 := (hb4.block w.heap.size (by omega)).trans HRD.out
  have ck4 := cell1 rk4
  have HR4 := hid rk4
  clear cd4 rk4
  refine anyT_next (i := 14) (o := { dst := some 118, op := Op.buildSlice 56 1 #[(0, Operand.tmp 117)], type := 56, pos := "nfa.go:136", after := #[{ on := 13, ground := Ground.data }], guard := none }) (by kernel_rfl) rfl (by decide) inv (fun inv K' hK => ?_)
  go_simp
  refine hK.out _ _ ⟨cm4, c74, ck4⟩ ?_
  clear hK K'
  try simp only [Act.put, List.setIfInBounds_toArray, List.set_cons_zero, List.set_cons_succ]
  obtain ⟨i0, hi, hq0, hq1, hq2⟩ := info_parts info3
  refine anyT_next (i := 15) (o := { dst := some 119, op := Op.call { callee := Callee.builtin Builtin.append, args := #[Operand.tmp 116, Operand.tmp 118], argTypes := #[56, 56] }, type := 56, pos := "nfa.go:136", after := #[{ on := 12, ground := Ground.data }, { on := 14, ground := Ground.data }], guard := none }) (by kernel_rfl) rfl (by decide) inv (fun inv K' hK => ?_)
  simp only [Region.wanted]
  rw [if_pos trivial]
  refine wp_append_own_at (.tmp 116) (.tmp 118) 56 rfl B 3 i0 (.int .i64 0) 1 8 Tryd.underlying56 hi hq0 hq1 hq2 rfl (by decide) av0 pl0.also.length _ rfl (HM4.out.also _ _ _ hpl0 hav0) ⟨w3.heap.size, 0, none⟩ 1 1 [.int .i64 (f : Int)] ?c0 rfl ?c1 ?c2 ?c3 ?c4 ?c5 ?_
  case c0 => simp [hsd, Act.eval]
  case c1 =>
    intro j v hj
    rw [hsd] at hn4
    have := Lib.cell_of_heap hn4 j
    rw [show (⟨w3.heap.size, 0, none⟩ : Addr).add j = ⟨w3.heap.size, j, none⟩ by simp [Addr.add]; omega]
    rw [this, ← hj]
    simp
  case c2 => intro v hv; simp at hv; rcases hv with rfl; rfl
  case c3 => unfold maxLen; omega
  case c4 => omega
  case c5 => omega
  intro v' w5 hown' hgrow hnil hat
  have hapm : av0.ownBlock ≠ some m := fun e => (HM4.out.ap1 _ _ _ hav0 e).1 rfl
  have happ : av0.ownBlock ≠ some pg2 := fun e => (HM4.out.ap1 _ _ _ hav0 e).2 rfl
  have hapk : av0.ownBlock ≠ some w.heap.size := fun e => HOK.out _ (.inr (.inr ⟨av0, List.mem_iff_getElem?.2 ⟨_, hav0⟩, e⟩)) rfl
  have hpgl := (HM4.out.row.lt pg2 rfl).2
  have hm5 := (hgrow.block m (Array.getElem?_eq_some_iff.1 HM4.out.box).1 (fun e => hapm e.symm)).trans HM4.out.box
  have cm5 : w5.cell? ⟨m, 0, none⟩ = some (.slice (some ⟨pg2, 0, none⟩) P2.length cap2) := by rw [Lib.cell_of_heap hm5]; rfl
  have c75 : w5.cell? ⟨pg2, P.length * 9 + 7, none⟩ = some av0 := (World.cell?_of_block (hgrow.block pg2 hpgl (fun e => happ e.symm))).trans c74
  have f75 : w5.frozen? ⟨pg2, P.length * 9 + 7, none⟩ = false := (World.frozen?_of_block (hgrow.block pg2 hpgl (fun e => happ e.symm))).trans ((HM4.out.cellat hpl0 hav0).2.1 _)
  have ck5 := cell1 ((hgrow.block w.heap.size (Array.getElem?_eq_some_iff.1 HR4.out).1 (fun e => hapk e.symm)).trans HR4.out)
  obtain ⟨vo, vc, rfl⟩ : ∃ vo vc, v' = .slice vo (pl0.also.length + 1) vc := by
            rcases hown'.2 with ⟨_, h0⟩ | ⟨g, cap, cur, rfl, _⟩
            · omega
            · exact ⟨_, _, rfl⟩
  have hat2 : (Value.slice vo (pl0.also.length + 1) vc).ownBlock = av0.ownBlock ∨ ∃ g, (Value.slice vo (pl0.also.length + 1) vc).ownBlock = some g ∧ w4.heap.size ≤ g := hat.imp id (fun e => ⟨_, e, Nat.le_refl _⟩)
  have hown2 : w5.ownsRow B 3 1 (.slice vo (pl0.also.length + 1) vc) (pl0.also ++ [f]).length ((pl0.also ++ [f]).map fun (q : Nat) => Value.int .i64 (q : Int)) := by rw [List.length_append, List.map_append]; exact hown'
  have hmod : (P2.modify P.length fun pl => { pl with also := pl0.also ++ [f] }) = X3.addAlso P2 P.length f := X3.modify_also hpl0
  have hRS := HM4.out.restored hav0 hgrow hown2 hat2
  rw [hmod] at hRS
  have HFN := hid hRS
  have HLN := hid (LF.restored (j := P.length * 9 + 7) HM4.out hav0 hgrow hat2)
  have hsg := hgrow.size
  clear hown' hgrow hnil hat hat2 hown2 hRS hm5 hmod
  refine hK.out _ _ ⟨cm5, c75, ck5⟩ ?_
  clear hK K'
  try simp only [Act.put, List.setIfInBounds_toArray, List.set_cons_zero, List.set_cons_succ]
  refine anyT_take (i := 16) (oi := { dst := some 120, op := Op.indexAddr 69 (Operand.tmp 107) (Operand.tmp 108), type := 0, pos := "nfa.go:136", after := #[{ on := 3, ground := Ground.data }, { on := 4, ground := Ground.data }, { on := 0, ground := Ground.phase }, { on := 1, ground := Ground.phase }, { on := 2, ground := Ground.phase }, { on := 3, ground := Ground.phase }, { on := 4, ground := Ground.phase }, { on := 5, ground := Ground.phase }, { on := 6, ground := Ground.phase }, { on := 7, ground := Ground.phase }, { on := 8, ground := Ground.phase }, { on := 9, ground := Ground.phase }, { on := 10, ground := Ground.phase }, { on := 11, ground := Ground.phase }, { on := 12, ground := Ground.phase }, { on := 13, ground := Ground.phase }, { on := 14, ground := Ground.phase }, { on := 15, ground := Ground.phase }], guard := none }) (v := ?_) rfl (by kernel_rfl) (by kernel_rfl) (by kernel_rfl) (by decide) (by decide) (by kernel_rfl) (by kernel_rfl) (fun _ _ _ h => h) (Or.inl ⟨by rfl, ?_⟩) ⟨cm5, c75, ck5⟩ inv (fun inv => ?_)
  rotate_left
  · intro w hSw
    try dsimp only at hSw
    go_simp
    try with_reducible rfl
  simp only [Act.put, List.setIfInBounds_toArray, List.set_cons_zero, List.set_cons_succ]
  refine anyT_take (i := 17) (oi := { dst := some 121, op := Op.fieldAddr 75 (Operand.tmp 120) 2, type := 0, pos := "nfa.go:136", after := #[{ on := 16, ground := Ground.data }, { on := 0, ground := Ground.phase }, { on := 1, ground := Ground.phase }, { on := 2, ground := Ground.phase }, { on := 3, ground := Ground.phase }, { on := 4, ground := Ground.phase }, { on := 5, ground := Ground.phase }, { on := 6, ground := Ground.phase }, { on := 7, ground := Ground.phase }, { on := 8, ground := Ground.phase }, { on := 9, ground := Ground.phase }, { on := 10, ground := Ground.phase }, { on := 11, ground := Ground.phase }, { on := 12, ground := Ground.phase }, { on := 13, ground := Ground.phase }, { on := 14, ground := Ground.phase }, { on := 15, ground := Ground.phase }], guard := none }) (v := ?_) rfl (by kernel_rfl) (by kernel_rfl) (by kernel_rfl) (by decide) (by decide) (by kernel_rfl) (by kernel_rfl) (fun _ _ _ h => h) (Or.inl ⟨by rfl, ?_⟩) ⟨cm5, c75, ck5⟩ inv (fun inv => ?_)
  rotate_left
  · intro w hSw
    try dsimp only at hSw
    go_simp
    try with_reducible rfl
  simp only [Act.put, List.setIfInBounds_toArray, List.set_cons_zero, List.set_cons_succ]
  refine anyT_one (i := 18) (o := { dst := none, op := Op.store 56 (Operand.tmp 121) (Operand.tmp 119), type := 0, pos := "nfa.go:136", after := #[{ on := 17, ground := Ground.data }, { on := 15, ground := Ground.data }, { on := 15, ground := Ground.chain }, { on := 0, ground := Ground.phase }, { on := 1, ground := Ground.phase }, { on := 2, ground := Ground.phase }, { on := 3, ground := Ground.phase }, { on := 4, ground := Ground.phase }, { on := 5, ground := Ground.phase }, { on := 6, ground := Ground.phase }, { on := 7, ground := Ground.phase }, { on := 8, ground := Ground.phase }, { on := 9, ground := Ground.phase }, { on := 10, ground := Ground.phase }, { on := 11, ground := Ground.phase }, { on := 12, ground := Ground.phase }, { on := 13, ground := Ground.phase }, { on := 14, ground := Ground.phase }, { on := 15, ground := Ground.phase }], guard := none }) (by kernel_rfl) rfl (fun K' hK => ?_)
  go_simp
  refine hK.out _ _ (fun h => absurd h (by decide)) ?_
  clear hK K'
  try simp only [Act.put, List.setIfInBounds_toArray, List.set_cons_zero, List.set_cons_succ]
  refine anyT_done (by kernel_rfl) ?_ _
  go_wp2_with fail
  go_ret
  exact ⟨_, _, by rw [hR1.out]; rfl, by rw [HP12.out]; exact HFN.out, (LF.ofBelow hb0).trans (HF5.out.trans (HFd.out.trans ((LF.ofBelow hb4).trans HLN.out)))⟩
end Go.Proofs.YtochckefnjobhaaDoor
