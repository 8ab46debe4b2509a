/- The document's own answer: with what a row begins. -/
import Derived.Test.YtmfobiimihaiiaaKz
namespace Go.Proofs.Ytmfobiimihaiiaa
open Go Go.RowKit Go.Lib Go.Joins

set_option maxRecDepth 100000 in
set_option maxHeartbeats 4000000 in
theorem RrowOf_any {G : GD} {gv tv ov sv pv : Value} {tf : Nat → Nat → Value} {rv : Nat → Value} {w : World} (h : GrAt w gv G tv ov sv pv tf rv) (hV : validB G = true) {l : List Int} {lv : Value} {b : Nat} (hl : IntsAt w lv l) (hb0 : b < top) :
    Calls Try.prog 22 #[gv, lv, u64 b] w fun e W' =>
      ∃ E F, e = .returned (u64 (ofRow G.terms.length E F l b)) ∧ Least false G.prods G.sorts.length E ∧ LeastS (evF G.terms.length E G.prods) G.sorts.length F ∧ Below w.heap.size w W' := by
  obtain ⟨W1, B, hW1, hB, c0, c1, c2, c3, c4, hG, hb, hsz⟩ := gr_box h
  subst hB
  have kf := RFirst_any hG hV
  have HG := hid hG
  have HV := hid hV
  have HL := hid (hl.mono hb)
  have HL0 := hid hl
  have hgv := h.eq
  have hs := hG.sorts
  obtain ⟨st0, st1⟩ := valid_start hV
  subst hgv
  obtain ⟨sa, sc, rfl, hsn, _⟩ := hs
  have KE : Hid (∀ W', Below W1.heap.size W1 W' → Calls Try.prog 13 #[.agg #[tv, ov, .slice sa G.sorts.length sc, pv, .int .i64 G.start]] W' fun e W'' => ∃ lb L, e = .returned (.slice (some ⟨lb, 0, none⟩) G.sorts.length G.sorts.length) ∧ Least false G.prods G.sorts.length L ∧ W''.heap[lb]? = some (.cells (L.map Value.bool).toArray 4) ∧ W'.heap.size ≤ lb ∧ Below W'.heap.size W' W'') :=
    fun W' hb => REmpty_any (HG.out.mono hb) HV.out
  have KR : Hid (∀ (W' : World) (E : List Bool) (F : List Nat) (eb fb : Nat), Below W1.heap.size W1 W' → W'.heap[eb]? = some (.cells (E.map Value.bool).toArray 4) → W'.heap[fb]? = some (.cells (sets F) 30) → E.length = G.sorts.length → F.length = G.sorts.length → (∀ x ∈ F, x < top) →
      Calls Try.prog 33 #[.agg #[tv, ov, .slice sa G.sorts.length sc, pv, .int .i64 G.start], .slice (some ⟨eb, 0, none⟩) G.sorts.length G.sorts.length, .slice (some ⟨fb, 0, none⟩) G.sorts.length G.sorts.length, lv, u64 b] W' fun e W'' => e = .returned (u64 (ofRow G.terms.length E F l b)) ∧ Below W'.heap.size W' W'') :=
    fun W' E F eb fb hb hE hF hEl hFl hFt => Rrow_any (HG.out.mono hb) hE hF hEl hFl hFt hb0 (HL.out.mono hb)
  clear h hG hV hl
  generalize G.sorts.length = ns at *
  generalize G.terms.length = nt at *
  have hn0 : ¬ ((ns : Int) = 0) := by omega
  have hn4 : ((ns : Int) == 0) = false := beq_eq_false_iff_ne.2 hn0
  go_enter Try.func22, Try.ntmps22
  go_wp2_with fail
  rw [← hW1]
  clear hW1
  refine kf.mono ?_
  rintro e w1 ⟨fb, rfl, E, F, hE1, hF1, hF2, hF3, hB1⟩
  have d0 := cell_below hB1 c0
  have d1 := cell_below hB1 c1
  have d2 := cell_below hB1 c2
  have d3 := cell_below hB1 c3
  have d4 := cell_below hB1 c4
  have HF1 := hid hF1
  have HF2 := hid hF2
  have HE0 := hid hE1
  clear hF1 hF2 hE1
  go_wp2_with fail
  refine region_T 7 (fun w' => w'.cell? ⟨w.heap.size, 0, none⟩ = some tv ∧ w'.cell? ⟨w.heap.size, 1, none⟩ = some ov ∧ w'.cell? ⟨w.heap.size, 2, none⟩ = some (.slice sa ns sc) ∧ w'.cell? ⟨w.heap.size, 3, none⟩ = some pv ∧ w'.cell? ⟨w.heap.size, 4, none⟩ = some (.int .i64 G.start)) (by kernel_rfl) ⟨d0, d1, d2, d3, d4⟩ (fun inv hHeld => ?_)
  refine anyT_take (i := 0) (oi := { dst := some 13, op := Op.load 27 (Operand.tmp 3), type := 27, pos := "ref.go:91", after := #[], guard := none }) (v := ?_) rfl (by kernel_rfl) (by kernel_rfl) (by kernel_rfl) (by decide) (by decide) (by kernel_rfl) (by kernel_rfl) (fun _ _ _ h => h) (Or.inl ⟨by rfl, ?_⟩) hHeld inv (fun inv => ?_)
  rotate_left
  · intro w hSw
    try dsimp only at hSw
    go_simp
    try with_reducible rfl
  simp only [Act.put, List.setIfInBounds_toArray, List.set_cons_zero, List.set_cons_succ]
  refine anyT_take (i := 1) (oi := { dst := some 14, op := Op.load 27 (Operand.tmp 3), type := 27, pos := "ref.go:91", after := #[], guard := none }) (v := ?_) rfl (by kernel_rfl) (by kernel_rfl) (by kernel_rfl) (by decide) (by decide) (by kernel_rfl) (by kernel_rfl) (fun _ _ _ h => h) (Or.inl ⟨by rfl, ?_⟩) hHeld inv (fun inv => ?_)
  rotate_left
  · intro w hSw
    try dsimp only at hSw
    go_simp
    try with_reducible rfl
  simp only [Act.put, List.setIfInBounds_toArray, List.set_cons_zero, List.set_cons_succ]
  refine anyT_take (i := 3) (oi := { dst := some 16, op := Op.move (Operand.tmp 7), type := 36, pos := "ref.go:91", after := #[], guard := none }) (v := ?_) rfl (by kernel_rfl) (by kernel_rfl) (by kernel_rfl) (by decide) (by decide) (by kernel_rfl) (by kernel_rfl) (fun _ _ _ h => h) (Or.inl ⟨by rfl, ?_⟩) hHeld inv (fun inv => ?_)
  rotate_left
  · intro w hSw
    try dsimp only at hSw
    go_simp
    try with_reducible rfl
  simp only [Act.put, List.setIfInBounds_toArray, List.set_cons_zero, List.set_cons_succ]
  refine anyT_take (i := 4) (oi := { dst := some 17, op := Op.move (Operand.tmp 1), type := 28, pos := "ref.go:91", after := #[], guard := none }) (v := ?_) rfl (by kernel_rfl) (by kernel_rfl) (by kernel_rfl) (by decide) (by decide) (by kernel_rfl) (by kernel_rfl) (fun _ _ _ h => h) (Or.inl ⟨by rfl, ?_⟩) hHeld inv (fun inv => ?_)
  rotate_left
  · intro w hSw
    try dsimp only at hSw
    go_simp
    try with_reducible rfl
  simp only [Act.put, List.setIfInBounds_toArray, List.set_cons_zero, List.set_cons_succ]
  refine anyT_take (i := 5) (oi := { dst := some 18, op := Op.move (Operand.tmp 2), type := 30, pos := "ref.go:91", after := #[], guard := none }) (v := ?_) rfl (by kernel_rfl) (by kernel_rfl) (by kernel_rfl) (by decide) (by decide) (by kernel_rfl) (by kernel_rfl) (fun _ _ _ h => h) (Or.inl ⟨by rfl, ?_⟩) hHeld inv (fun inv => ?_)
  rotate_left
  · intro w hSw
    try dsimp only at hSw
    go_simp
    try with_reducible rfl
  simp only [Act.put, List.setIfInBounds_toArray, List.set_cons_zero, List.set_cons_succ]
  refine anyT_next (i := 2) (o := { dst := some 15, op := Op.call { callee := Callee.value (Operand.func 13), args := #[Operand.tmp 14], argTypes := #[27] }, type := 33, pos := "ref.go:91", after := #[{ on := 1, ground := Ground.data }], guard := none }) (by kernel_rfl) rfl (by decide) inv (fun inv K' hK => ?_)
  go_simp
  refine (KE.out w1.drew hB1.drew).mono ?_
  rintro e w5 ⟨eb, E', rfl, hE1, hE2, hE3, hB5⟩
  obtain rfl := HE0.out.same hE1
  have hb5 : Below w1.heap.size w1 w5 := (Below.refl _ _).drew.trans hB5
  have hd : w5.cell? ⟨w.heap.size, 0, none⟩ = some tv ∧ w5.cell? ⟨w.heap.size, 1, none⟩ = some ov ∧ w5.cell? ⟨w.heap.size, 2, none⟩ = some (.slice sa ns sc) ∧ w5.cell? ⟨w.heap.size, 3, none⟩ = some pv ∧ w5.cell? ⟨w.heap.size, 4, none⟩ = some (.int .i64 G.start) := ⟨cell_below hb5 d0, cell_below hb5 d1, cell_below hb5 d2, cell_below hb5 d3, cell_below hb5 d4⟩
  have kr := hid (KR.out w5 _ F eb fb (hB1.trans (hb5.mono hB1.size)) hE2 (heap_keep hb5 HF2.out) hE1.length HF1.out.length HF1.out.2.2)
  have HE1 := hid hE1
  clear hE1 hE2
  go_wp2_with fail
  refine hK.out _ _ hd ?_
  clear hK K'
  try simp only [Act.put, List.setIfInBounds_toArray, List.set_cons_zero, List.set_cons_succ]
  refine anyT_next (i := 6) (o := { dst := some 19, op := Op.call { callee := Callee.value (Operand.func 33), args := #[Operand.tmp 13, Operand.tmp 15, Operand.tmp 16, Operand.tmp 17, Operand.tmp 18], argTypes := #[27, 33, 36, 28, 30] }, type := 30, pos := "ref.go:91", after := #[{ on := 0, ground := Ground.data }, { on := 2, ground := Ground.data }, { on := 3, ground := Ground.data }, { on := 4, ground := Ground.data }, { on := 5, ground := Ground.data }, { on := 2, ground := Ground.chain }], guard := none }) (by kernel_rfl) rfl (by decide) inv (fun inv K' hK => ?_)
  go_simp
  refine kr.out.mono ?_
  rintro e w6 ⟨rfl, hb6⟩
  have hb7 := hb5.trans (hb6.mono hb5.size)
  have hd6 : w6.cell? ⟨w.heap.size, 0, none⟩ = some tv ∧ w6.cell? ⟨w.heap.size, 1, none⟩ = some ov ∧ w6.cell? ⟨w.heap.size, 2, none⟩ = some (.slice sa ns sc) ∧ w6.cell? ⟨w.heap.size, 3, none⟩ = some pv ∧ w6.cell? ⟨w.heap.size, 4, none⟩ = some (.int .i64 G.start) := ⟨cell_below hb7 d0, cell_below hb7 d1, cell_below hb7 d2, cell_below hb7 d3, cell_below hb7 d4⟩
  go_wp2_with fail
  refine hK.out _ _ hd6 ?_
  clear hK K'
  try simp only [Act.put, List.setIfInBounds_toArray, List.set_cons_zero, List.set_cons_succ]
  refine anyT_one (i := 7) (o := { dst := some 6, op := Op.assign (Operand.tmp 19), type := 30, pos := "ref.go:91", after := #[{ on := 6, ground := Ground.data }, { on := 6, ground := Ground.chain }, { on := 0, ground := Ground.phase }, { on := 1, ground := Ground.phase }, { on := 2, ground := Ground.phase }, { on := 3, ground := Ground.phase }, { on := 4, ground := Ground.phase }, { on := 5, ground := Ground.phase }, { on := 6, ground := Ground.phase }], guard := none }) (by kernel_rfl) rfl (fun K' hK => ?_)
  go_simp
  refine hK.out _ _ (fun h => absurd h (by decide)) ?_
  clear hK K'
  try simp only [Act.put, List.setIfInBounds_toArray, List.set_cons_zero, List.set_cons_succ]
  refine anyT_done (by kernel_rfl) ?_ _
  go_wp2
  go_ret
  exact ⟨_, F, rfl, HE1.out, HF1.out, hb.trans ((hB1.trans (hb7.mono hB1.size)).mono hsz)⟩

end Go.Proofs.Ytmfobiimihaiiaa
