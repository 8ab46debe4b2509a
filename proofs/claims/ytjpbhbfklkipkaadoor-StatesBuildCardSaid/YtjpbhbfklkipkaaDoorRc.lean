/- The document's answers: what is behind a dot. -/
import Derived.Test.YtjpbhbfklkipkaaDoorRb
namespace Go.Proofs.YtjpbhbfklkipkaaDoor
open Go Go.RowKit Go.Lib
open X14 (It rightX thereX behX)
set_option linter.unusedVariables false
set_option linter.unusedSimpArgs false
def BehVP (G : GD) (x : It) (w : World) (e : Ending) (w' : World) : Prop := e = .returned (.tuple #[.int .i64 ((behV G x).getD 0), .bool (behV G x).isSome]) ∧ Below w.heap.size w w'
theorem behV_no {G : GD} {x : It} (h : isV G x = false) : behV G x = none := by
  unfold behV
  split
  · rename_i hv
    unfold isV at h
    rw [hv, Bool.true_and] at h
    unfold behX
    rw [if_neg (by rw [h]; exact Bool.false_ne_true)]
  · rfl
theorem behV_yes {G : GD} {x : It} (h : isV G x = true) : behV G x = (rightX G x.1)[x.2.toNat]? := by
  unfold isV at h
  rw [Bool.and_eq_true] at h
  unfold behV behX
  rw [if_pos h.1, if_pos h.2]
set_option maxRecDepth 100000 in
set_option maxHeartbeats 8000000 in
theorem RBehind_any {G : GD} {gv : Value} {w : World} (h : Gram w gv G) (x : It) :
    Calls Tryd.prog 13 #[gv, itV x] w (BehVP G x w) := by
  have HGr := hid h
  obtain ⟨tv, ov, sv, pv, tf, rv, h⟩ := h
  obtain ⟨W1, B, hW1, hB, c0, c1, c2, c3, c4, hG, hb, hsz⟩ := gr_box h
  have hgv := h.eq
  subst hgv hB
  have e1 := hW1.symm
  obtain ⟨W2, e2⟩ : ∃ W2, W1.alloc (.cells #[.int .i64 x.1, .int .i64 x.2] 39) = W2 := ⟨_, rfl⟩
  have hb2 : Below W1.heap.size W1 W2 := by rw [← e2]; exact (Below.refl _ _).alloc (Nat.le_refl _) _
  have n2 : W2.heap[W1.heap.size]? = some (.cells #[.int .i64 x.1, .int .i64 x.2] 39 (0, 0)) := by rw [← e2]; exact heap_alloc_new _ _
  have lW : W1.heap.size < W2.heap.size := (Array.getElem?_eq_some_iff.1 n2).1
  have lB : w.heap.size < W1.heap.size := World.block_lt_of_cell? W1 _ c3
  have HB2 := hid (hb.trans (hb2.mono hsz))
  have c0 := cell_below hb2 c0
  have c1 := cell_below hb2 c1
  have c2 := cell_below hb2 c2
  have c3 := cell_below hb2 c3
  have c4 := cell_below hb2 c4
  have HF0 : Hid (∀ w', Below W2.heap.size W2 w' → w'.cell? ⟨W1.heap.size, 0, none⟩ = some (.int .i64 x.1)) := hid fun w' hC => cell_below hC (Lib.cell_of_heap n2 0)
  have HF1 : Hid (∀ w', Below W2.heap.size W2 w' → w'.cell? ⟨W1.heap.size, 1, none⟩ = some (.int .i64 x.2)) := hid fun w' hC => cell_below hC (Lib.cell_of_heap n2 1)
  have HF2 : Hid (∀ w', Below W2.heap.size W2 w' → w'.cell? ⟨w.heap.size, 3, none⟩ = some pv) := hid fun w' hC => cell_below hC c3
  have HF3 : Hid (∀ w', Below W2.heap.size W2 w' → w'.cell? ⟨w.heap.size, 0, none⟩ = some tv) := hid fun w' hC => cell_below hC c0
  have HF4 : Hid (∀ w', Below W2.heap.size W2 w' → w'.cell? ⟨w.heap.size, 1, none⟩ = some ov) := hid fun w' hC => cell_below hC c1
  have HF5 : Hid (∀ w', Below W2.heap.size W2 w' → w'.cell? ⟨w.heap.size, 2, none⟩ = some sv) := hid fun w' hC => cell_below hC c2
  have HF6 : Hid (∀ w', Below W2.heap.size W2 w' → w'.cell? ⟨w.heap.size, 4, none⟩ = some (.int .i64 G.start)) := hid fun w' hC => cell_below hC c4
  have HWG := hid (show ∀ w', Below W2.heap.size W2 w' → Gram w' (.agg #[tv, ov, sv, pv, .int .i64 G.start]) G from fun w' hC => HGr.out.below (HB2.out.trans (hC.mono HB2.out.size)))
  have hKI : ∀ w', Below W2.heap.size W2 w' → Calls Tryd.prog 27 #[.agg #[tv, ov, sv, pv, .int .i64 G.start], itV x] w' fun e w'' => e = .returned (.bool (isV G x)) ∧ Below w'.heap.size w' w'' := fun w' hC => RIs_any (HWG.out w' hC) x
  obtain ⟨iv, hiv⟩ : ∃ iv, isV G x = iv := ⟨_, rfl⟩
  rw [hiv] at hKI
  have KI := hid hKI
  have HIV := hid hiv
  unfold itV at KI ⊢
  clear h hG hW1 hb hb2 n2 hKI hiv c0 c1 c2 c3 c4
  cases iv
  · have HNO := hid (behV_no HIV.out)
    go_enter Tryd.func13, Tryd.ntmps13
    go_wp2_with fail
    refine wp_region_below (by kernel_rfl) (by kernel_rfl) ?_
    with_reducible refine BigFrame.wpQuiet_want (by kernel_rfl) (fun K hK => ?_)
    apply Exists.intro
    refine ⟨fun w' hC => ?_, hK _ ?_⟩
    · have f0' := HF0.out w' hC
      have f1' := HF1.out w' hC
      have f2' := HF2.out w' hC
      have f3' := HF3.out w' hC
      have f4' := HF4.out w' hC
      have f5' := HF5.out w' hC
      have f6' := HF6.out w' hC
      unfold Oper.quietAt
      go_simp
      first | with_reducible rfl | done
    clear hK K
    try simp only [Act.put, List.setIfInBounds_toArray, List.set_cons_zero, List.set_cons_succ]
    with_reducible refine BigFrame.wpQuiet_want (by kernel_rfl) (fun K hK => ?_)
    apply Exists.intro
    refine ⟨fun w' hC => ?_, hK _ ?_⟩
    · have f0' := HF0.out w' hC
      have f1' := HF1.out w' hC
      have f2' := HF2.out w' hC
      have f3' := HF3.out w' hC
      have f4' := HF4.out w' hC
      have f5' := HF5.out w' hC
      have f6' := HF6.out w' hC
      unfold Oper.quietAt
      go_simp
      first | with_reducible rfl | done
    clear hK K
    try simp only [Act.put, List.setIfInBounds_toArray, List.set_cons_zero, List.set_cons_succ]
    with_reducible refine BigFrame.wpQuiet_want (by kernel_rfl) (fun K hK => ?_)
    apply Exists.intro
    refine ⟨fun w' hC => ?_, hK _ ?_⟩
    · unfold Oper.quietAt
      go_simp
      first
        | with_reducible exact below_call hC (Nat.le_refl _) (KI.out w' hC)
    clear hK K
    try simp only [Act.put, List.setIfInBounds_toArray, List.set_cons_zero, List.set_cons_succ]
    with_reducible refine BigFrame.wpQuiet_want (by kernel_rfl) (fun K hK => ?_)
    apply Exists.intro
    refine ⟨fun w' hC => ?_, hK _ ?_⟩
    · unfold Oper.quietAt
      go_simp
      first | with_reducible rfl | done
    clear hK K
    try simp only [Act.put, List.setIfInBounds_toArray, List.set_cons_zero, List.set_cons_succ]
    with_reducible refine BigFrame.wpQuiet_want (by kernel_rfl) (fun K hK => ?_)
    apply Exists.intro
    refine ⟨fun w' hC => ?_, hK _ ?_⟩
    · unfold Oper.quietAt
      go_simp
      first | with_reducible rfl | done
    clear hK K
    try simp only [Act.put, List.setIfInBounds_toArray, List.set_cons_zero, List.set_cons_succ]
    with_reducible refine BigFrame.wpQuiet_skip (by kernel_rfl) ?_
    try simp only [Act.put, List.setIfInBounds_toArray, List.set_cons_zero, List.set_cons_succ]
    with_reducible refine BigFrame.wpQuiet_skip (by kernel_rfl) ?_
    try simp only [Act.put, List.setIfInBounds_toArray, List.set_cons_zero, List.set_cons_succ]
    with_reducible refine BigFrame.wpQuiet_skip (by kernel_rfl) ?_
    try simp only [Act.put, List.setIfInBounds_toArray, List.set_cons_zero, List.set_cons_succ]
    with_reducible refine BigFrame.wpQuiet_skip (by kernel_rfl) ?_
    try simp only [Act.put, List.setIfInBounds_toArray, List.set_cons_zero, List.set_cons_succ]
    with_reducible refine BigFrame.wpQuiet_skip (by kernel_rfl) ?_
    try simp only [Act.put, List.setIfInBounds_toArray, List.set_cons_zero, List.set_cons_succ]
    with_reducible refine BigFrame.wpQuiet_skip (by kernel_rfl) ?_
    try simp only [Act.put, List.setIfInBounds_toArray, List.set_cons_zero, List.set_cons_succ]
    with_reducible refine BigFrame.wpQuiet_skip (by kernel_rfl) ?_
    try simp only [Act.put, List.setIfInBounds_toArray, List.set_cons_zero, List.set_cons_succ]
    with_reducible refine BigFrame.wpQuiet_skip (by kernel_rfl) ?_
    try simp only [Act.put, List.setIfInBounds_toArray, List.set_cons_zero, List.set_cons_succ]
    with_reducible refine BigFrame.wpQuiet_want (by kernel_rfl) (fun K hK => ?_)
    apply Exists.intro
    refine ⟨fun w' hC => ?_, hK _ ?_⟩
    · unfold Oper.quietAt
      go_simp
      first | with_reducible rfl | done
    clear hK K
    try simp only [Act.put, List.setIfInBounds_toArray, List.set_cons_zero, List.set_cons_succ]
    refine wpQuiet_nil ?_
    intro w6 hb6
    have HB6 := hid (HB2.out.trans (hb6.mono HB2.out.size))
    clear hb6
    go_wp2_with fail
    refine bodyPost_ret (results_tmp2 rfl _ _ _) rfl ?_
    refine ⟨?_, HB6.out⟩
    rw [HNO.out]
    rfl
  have HBV := hid (behV_yes HIV.out)
  have hX := X14.there_iff.1 (show thereX G x = true from by
    have := HIV.out
    unfold isV at this
    rw [Bool.and_eq_true] at this
    exact this.2)
  have HV := hid (show validB G = true from by
    have := HIV.out
    unfold isV at this
    rw [Bool.and_eq_true] at this
    exact this.1)
  obtain ⟨a, b⟩ := x
  dsimp only at *
  obtain ⟨n, rfl⟩ : ∃ n : Nat, b = (n : Int) := ⟨b.toNat, by omega⟩
  rw [Int.toNat_natCast] at HBV
  obtain ⟨rl, hrl⟩ : ∃ rl, (rightX G a).length = rl := ⟨_, rfl⟩
  have HRL := hid hrl
  have HX := hid hX
  rw [hrl] at hX
  have hnrl : n ≤ rl := by omega
  clear hrl hX
  obtain ⟨we, ewe⟩ : ∃ we, W2.drew = we := ⟨_, rfl⟩
  have hbe : Below W2.heap.size W2 we := by rw [← ewe]; exact (Below.refl _ _).drew
  have HS := hid (show ∀ w', Below W2.heap.size W2 w' → (w'.cell? ⟨W1.heap.size, 0, none⟩ = some (.int .i64 a) ∧ w'.cell? ⟨W1.heap.size, 1, none⟩ = some (.int .i64 (n : Int)) ∧ w'.cell? ⟨w.heap.size, 3, none⟩ = some pv ∧ w'.cell? ⟨w.heap.size, 0, none⟩ = some tv ∧ w'.cell? ⟨w.heap.size, 1, none⟩ = some ov ∧ w'.cell? ⟨w.heap.size, 2, none⟩ = some sv ∧ w'.cell? ⟨w.heap.size, 4, none⟩ = some (.int .i64 G.start)) from fun w' hC => ⟨HF0.out w' hC, HF1.out w' hC, HF2.out w' hC, HF3.out w' hC, HF4.out w' hC, HF5.out w' hC, HF6.out w' hC⟩)
  have HH0 := HS.out we hbe
  have HBe := hid hbe
  have hwe := hbe.size
  clear hbe
  go_enter Tryd.func13, Tryd.ntmps13
  go_wp2_with fail
  refine region_T 13 (fun w' => w'.cell? ⟨W1.heap.size, 0, none⟩ = some (.int .i64 a) ∧ w'.cell? ⟨W1.heap.size, 1, none⟩ = some (.int .i64 (n : Int)) ∧ w'.cell? ⟨w.heap.size, 3, none⟩ = some pv ∧ w'.cell? ⟨w.heap.size, 0, none⟩ = some tv ∧ w'.cell? ⟨w.heap.size, 1, none⟩ = some ov ∧ w'.cell? ⟨w.heap.size, 2, none⟩ = some sv ∧ w'.cell? ⟨w.heap.size, 4, none⟩ = some (.int .i64 G.start)) (by kernel_rfl) (by rw [ewe]; exact HH0) (fun inv hHeld => ?_)
  rw [ewe]
  clear hHeld ewe
  refine anyT_take (i := 0) (oi := { dst := some 6, op := Go.Op.load 27 (Go.Operand.tmp 2), type := 27, pos := "ref.go:37", after := #[], guard := none }) (v := ?_) rfl (by kernel_rfl) (by kernel_rfl) (by kernel_rfl) (by decide) (by decide) (by kernel_rfl) (by kernel_rfl) (fun _ _ _ h => h) (Or.inl ⟨by rfl, ?_⟩) HH0 inv (fun inv => ?_)
  rotate_left
  · intro w hSw
    try dsimp only at hSw
    go_simp
    try with_reducible rfl
  simp only [Act.put, List.setIfInBounds_toArray, List.set_cons_zero, List.set_cons_succ]
  refine anyT_take (i := 1) (oi := { dst := some 7, op := Go.Op.load 39 (Go.Operand.tmp 3), type := 39, pos := "ref.go:37", after := #[], guard := none }) (v := ?_) rfl (by kernel_rfl) (by kernel_rfl) (by kernel_rfl) (by decide) (by decide) (by kernel_rfl) (by kernel_rfl) (fun _ _ _ h => h) (Or.inl ⟨by rfl, ?_⟩) HH0 inv (fun inv => ?_)
  rotate_left
  · intro w hSw
    try dsimp only at hSw
    go_simp
    try with_reducible rfl
  simp only [Act.put, List.setIfInBounds_toArray, List.set_cons_zero, List.set_cons_succ]
  refine anyT_next (i := 2) (o := { dst := some 8, op := Go.Op.call { callee := Go.Callee.value (Go.Operand.func 27), args := #[Go.Operand.tmp 6, Go.Operand.tmp 7], argTypes := #[27, 39] }, type := 4, pos := "ref.go:37", after := #[{ on := 0, ground := Go.Ground.data }, { on := 1, ground := Go.Ground.data }], guard := none }) (by kernel_rfl) rfl (by decide) inv (fun inv K' hK => ?_)
  go_simp
  refine (KI.out we HBe.out).mono ?_
  rintro e w4 ⟨rfl, hb4⟩
  have HB4 := hid (HBe.out.trans (hb4.mono HBe.out.size))
  refine hK.out _ _ (HS.out w4 HB4.out) ?_
  have HH0 := HS.out w4 HB4.out
  clear hK K' hb4
  try simp only [Act.put, List.setIfInBounds_toArray, List.set_cons_zero, List.set_cons_succ]
  refine anyT_take (i := 3) (oi := { dst := some 9, op := Go.Op.unOp Go.UnOp.not 4 (Go.Operand.tmp 8), type := 4, pos := "ref.go:37", after := #[{ on := 2, ground := Go.Ground.data }], guard := none }) (v := ?_) rfl (by kernel_rfl) (by kernel_rfl) (by kernel_rfl) (by decide) (by decide) (by kernel_rfl) (by kernel_rfl) (fun _ _ _ h => h) (Or.inl ⟨by rfl, ?_⟩) HH0 inv (fun inv => ?_)
  rotate_left
  · intro w hSw
    try dsimp only at hSw
    go_simp
    try with_reducible rfl
  simp only [Act.put, List.setIfInBounds_toArray, List.set_cons_zero, List.set_cons_succ]
  refine anyT_take (i := 4) (oi := { dst := some 10, op := Go.Op.move (Go.Operand.tmp 9), type := 4, pos := "ref.go:37", after := #[{ on := 3, ground := Go.Ground.data }, { on := 2, ground := Go.Ground.chain }], guard := none }) (v := ?_) rfl (by kernel_rfl) (by kernel_rfl) (by kernel_rfl) (by decide) (by decide) (by kernel_rfl) (by kernel_rfl) (fun _ _ _ h => h) (Or.inl ⟨by rfl, ?_⟩) HH0 inv (fun inv => ?_)
  rotate_left
  · intro w hSw
    try dsimp only at hSw
    go_simp
    try with_reducible rfl
  simp only [Act.put, List.setIfInBounds_toArray, List.set_cons_zero, List.set_cons_succ]
  refine anyT_take (i := 5) (oi := { dst := some 11, op := Go.Op.fieldAddr 39 (Go.Operand.tmp 3) 1, type := 0, pos := "ref.go:37", after := #[{ on := 4, ground := Go.Ground.guard }], guard := some (4, false) }) (v := ?_) rfl (by kernel_rfl) (by kernel_rfl) (by kernel_rfl) (by decide) (by decide) (by kernel_rfl) (by kernel_rfl) (fun _ _ _ h => h) (Or.inl ⟨by rfl, ?_⟩) HH0 inv (fun inv => ?_)
  rotate_left
  · intro w hSw
    try dsimp only at hSw
    go_simp
    try with_reducible rfl
  simp only [Act.put, List.setIfInBounds_toArray, List.set_cons_zero, List.set_cons_succ]
  refine anyT_take (i := 6) (oi := { dst := some 12, op := Go.Op.load 3 (Go.Operand.tmp 11), type := 3, pos := "ref.go:37", after := #[{ on := 5, ground := Go.Ground.data }, { on := 4, ground := Go.Ground.guard }], guard := some (4, false) }) (v := ?_) rfl (by kernel_rfl) (by kernel_rfl) (by kernel_rfl) (by decide) (by decide) (by kernel_rfl) (by kernel_rfl) (fun _ _ _ h => h) (Or.inl ⟨by rfl, ?_⟩) HH0 inv (fun inv => ?_)
  rotate_left
  · intro w hSw
    try dsimp only at hSw
    go_simp
    try with_reducible rfl
  simp only [Act.put, List.setIfInBounds_toArray, List.set_cons_zero, List.set_cons_succ]
  refine anyT_take (i := 7) (oi := { dst := some 13, op := Go.Op.load 27 (Go.Operand.tmp 2), type := 27, pos := "ref.go:37", after := #[{ on := 4, ground := Go.Ground.guard }], guard := some (4, false) }) (v := ?_) rfl (by kernel_rfl) (by kernel_rfl) (by kernel_rfl) (by decide) (by decide) (by kernel_rfl) (by kernel_rfl) (fun _ _ _ h => h) (Or.inl ⟨by rfl, ?_⟩) HH0 inv (fun inv => ?_)
  rotate_left
  · intro w hSw
    try dsimp only at hSw
    go_simp
    try with_reducible rfl
  simp only [Act.put, List.setIfInBounds_toArray, List.set_cons_zero, List.set_cons_succ]
  refine anyT_take (i := 8) (oi := { dst := some 14, op := Go.Op.fieldAddr 39 (Go.Operand.tmp 3) 0, type := 0, pos := "ref.go:37", after := #[{ on := 4, ground := Go.Ground.guard }], guard := some (4, false) }) (v := ?_) rfl (by kernel_rfl) (by kernel_rfl) (by kernel_rfl) (by decide) (by decide) (by kernel_rfl) (by kernel_rfl) (fun _ _ _ h => h) (Or.inl ⟨by rfl, ?_⟩) HH0 inv (fun inv => ?_)
  rotate_left
  · intro w hSw
    try dsimp only at hSw
    go_simp
    try with_reducible rfl
  simp only [Act.put, List.setIfInBounds_toArray, List.set_cons_zero, List.set_cons_succ]
  refine anyT_take (i := 9) (oi := { dst := some 15, op := Go.Op.load 3 (Go.Operand.tmp 14), type := 3, pos := "ref.go:37", after := #[{ on := 8, ground := Go.Ground.data }, { on := 4, ground := Go.Ground.guard }], guard := some (4, false) }) (v := ?_) rfl (by kernel_rfl) (by kernel_rfl) (by kernel_rfl) (by decide) (by decide) (by kernel_rfl) (by kernel_rfl) (fun _ _ _ h => h) (Or.inl ⟨by rfl, ?_⟩) HH0 inv (fun inv => ?_)
  rotate_left
  · intro w hSw
    try dsimp only at hSw
    go_simp
    try with_reducible rfl
  simp only [Act.put, List.setIfInBounds_toArray, List.set_cons_zero, List.set_cons_succ]
  refine anyT_next (i := 10) (o := { dst := some 16, op := Go.Op.call { callee := Go.Callee.value (Go.Operand.func 28), args := #[Go.Operand.tmp 13, Go.Operand.tmp 15], argTypes := #[27, 3] }, type := 62, pos := "ref.go:37", after := #[{ on := 7, ground := Go.Ground.data }, { on := 9, ground := Go.Ground.data }, { on := 4, ground := Go.Ground.chain }, { on := 4, ground := Go.Ground.guard }], guard := some (4, false) }) (by kernel_rfl) rfl (by decide) inv (fun inv K' hK => ?_)
  go_simp
  refine (RRight_any (HWG.out w4 HB4.out) HV.out a HX.out.1 HX.out.2.1).mono ?_
  rintro e w6 ⟨rv1, rfl, hrv, hb6⟩
  obtain ⟨ro, rc, rfl, hrn⟩ := right_len hrv
  rw [HRL.out] at hrn ⊢
  have HB6 := hid (HB4.out.trans (hb6.mono HB4.out.size))
  refine hK.out _ _ (HS.out w6 HB6.out) ?_
  have HH0 := HS.out w6 HB6.out
  clear hK K' hb6 hrv
  try simp only [Act.put, List.setIfInBounds_toArray, List.set_cons_zero, List.set_cons_succ]
  refine anyT_take (i := 11) (oi := { dst := some 17, op := Go.Op.call { callee := Go.Callee.builtin Go.Builtin.len, args := #[Go.Operand.tmp 16], argTypes := #[62] }, type := 3, pos := "ref.go:37", after := #[{ on := 10, ground := Go.Ground.data }, { on := 4, ground := Go.Ground.guard }], guard := some (4, false) }) (v := ?_) rfl (by kernel_rfl) (by kernel_rfl) (by kernel_rfl) (by decide) (by decide) (by kernel_rfl) (by kernel_rfl) (fun _ _ _ h => h) (Or.inl ⟨by rfl, ?_⟩) HH0 inv (fun inv => ?_)
  rotate_left
  · intro w hSw
    try dsimp only at hSw
    go_simp
    try with_reducible rfl
  simp only [Act.put, List.setIfInBounds_toArray, List.set_cons_zero, List.set_cons_succ]
  refine anyT_take (i := 12) (oi := { dst := some 18, op := Go.Op.binOp Go.BinOp.geq 3 (Go.Operand.tmp 12) (Go.Operand.tmp 17) 3, type := 4, pos := "ref.go:37", after := #[{ on := 6, ground := Go.Ground.data }, { on := 11, ground := Go.Ground.data }, { on := 4, ground := Go.Ground.guard }], guard := some (4, false) }) (v := ?_) rfl (by kernel_rfl) (by kernel_rfl) (by kernel_rfl) (by decide) (by decide) (by kernel_rfl) (by kernel_rfl) (fun _ _ _ h => h) (Or.inl ⟨by rfl, ?_⟩) HH0 inv (fun inv => ?_)
  rotate_left
  · intro w hSw
    try dsimp only at hSw
    go_simp
    try with_reducible rfl
  simp only [Act.put, List.setIfInBounds_toArray, List.set_cons_zero, List.set_cons_succ]
  refine anyT_one (i := 13) (o := { dst := some 19, op := Go.Op.pick (Go.Operand.tmp 10) (Go.Operand.const (Go.Value.bool true)) (Go.Operand.tmp 18), type := 4, pos := "ref.go:37", after := #[{ on := 4, ground := Go.Ground.data }, { on := 12, ground := Go.Ground.data }], guard := none }) (by kernel_rfl) rfl (fun K' hK => ?_)
  go_simp
  refine hK.out _ _ (fun h => absurd h (by decide)) ?_
  clear hK K'
  try simp only [Act.put, List.setIfInBounds_toArray, List.set_cons_zero, List.set_cons_succ]
  refine anyT_done (by kernel_rfl) ?_ _
  by_cases he : n = rl
  · have HBN := hid (show behV G (a, (n : Int)) = none from by rw [HBV.out]; exact List.getElem?_eq_none (by have := HRL.out; omega))
    have HB7 := hid (HB2.out.trans (HB6.out.mono HB2.out.size))
    subst he
    clear HBV
    go_wp2_with fail
    refine bodyPost_ret (results_tmp2 rfl _ _ _) rfl ?_
    refine ⟨?_, HB7.out⟩
    rw [HBN.out]
    rfl
  have hlt : n < rl := by omega
  have hgt : ¬ (rl : Int) ≤ (n : Int) := by omega
  have hgt2 : decide (rl ≤ n) = false := decide_eq_false (by omega)
  obtain ⟨we, ewe⟩ : ∃ we, w6.drew = we := ⟨_, rfl⟩
  have hbe : Below w6.heap.size w6 we := by rw [← ewe]; exact (Below.refl _ _).drew
  have hBe := HB6.out.trans (hbe.mono HB6.out.size)
  have HH0 := HS.out we hBe
  have HBe := hid hBe
  clear hbe hBe HH0 KI
  have HH0 := HS.out we HBe.out
  go_wp2_with fail
  have n0 : (0 : Int) ≤ (n : Int) := by omega
  have n1 : (n : Int) < (rl : Int) := by omega
  refine region_T 9 (fun w' => w'.cell? ⟨W1.heap.size, 0, none⟩ = some (.int .i64 a) ∧ w'.cell? ⟨W1.heap.size, 1, none⟩ = some (.int .i64 (n : Int)) ∧ w'.cell? ⟨w.heap.size, 3, none⟩ = some pv ∧ w'.cell? ⟨w.heap.size, 0, none⟩ = some tv ∧ w'.cell? ⟨w.heap.size, 1, none⟩ = some ov ∧ w'.cell? ⟨w.heap.size, 2, none⟩ = some sv ∧ w'.cell? ⟨w.heap.size, 4, none⟩ = some (.int .i64 G.start)) (by kernel_rfl) (by rw [ewe]; exact HH0) (fun inv hHeld => ?_)
  rw [ewe]
  clear hHeld ewe
  refine anyT_take (i := 0) (oi := { dst := some 20, op := Go.Op.load 27 (Go.Operand.tmp 2), type := 27, pos := "ref.go:40", after := #[], guard := none }) (v := ?_) rfl (by kernel_rfl) (by kernel_rfl) (by kernel_rfl) (by decide) (by decide) (by kernel_rfl) (by kernel_rfl) (fun _ _ _ h => h) (Or.inl ⟨by rfl, ?_⟩) HH0 inv (fun inv => ?_)
  rotate_left
  · intro w hSw
    try dsimp only at hSw
    go_simp
    try with_reducible rfl
  simp only [Act.put, List.setIfInBounds_toArray, List.set_cons_zero, List.set_cons_succ]
  refine anyT_take (i := 1) (oi := { dst := some 21, op := Go.Op.fieldAddr 39 (Go.Operand.tmp 3) 0, type := 0, pos := "ref.go:40", after := #[], guard := none }) (v := ?_) rfl (by kernel_rfl) (by kernel_rfl) (by kernel_rfl) (by decide) (by decide) (by kernel_rfl) (by kernel_rfl) (fun _ _ _ h => h) (Or.inl ⟨by rfl, ?_⟩) HH0 inv (fun inv => ?_)
  rotate_left
  · intro w hSw
    try dsimp only at hSw
    go_simp
    try with_reducible rfl
  simp only [Act.put, List.setIfInBounds_toArray, List.set_cons_zero, List.set_cons_succ]
  refine anyT_take (i := 2) (oi := { dst := some 22, op := Go.Op.load 3 (Go.Operand.tmp 21), type := 3, pos := "ref.go:40", after := #[{ on := 1, ground := Go.Ground.data }], guard := none }) (v := ?_) rfl (by kernel_rfl) (by kernel_rfl) (by kernel_rfl) (by decide) (by decide) (by kernel_rfl) (by kernel_rfl) (fun _ _ _ h => h) (Or.inl ⟨by rfl, ?_⟩) HH0 inv (fun inv => ?_)
  rotate_left
  · intro w hSw
    try dsimp only at hSw
    go_simp
    try with_reducible rfl
  simp only [Act.put, List.setIfInBounds_toArray, List.set_cons_zero, List.set_cons_succ]
  refine anyT_take (i := 4) (oi := { dst := some 24, op := Go.Op.fieldAddr 39 (Go.Operand.tmp 3) 1, type := 0, pos := "ref.go:40", after := #[], guard := none }) (v := ?_) rfl (by kernel_rfl) (by kernel_rfl) (by kernel_rfl) (by decide) (by decide) (by kernel_rfl) (by kernel_rfl) (fun _ _ _ h => h) (Or.inl ⟨by rfl, ?_⟩) HH0 inv (fun inv => ?_)
  rotate_left
  · intro w hSw
    try dsimp only at hSw
    go_simp
    try with_reducible rfl
  simp only [Act.put, List.setIfInBounds_toArray, List.set_cons_zero, List.set_cons_succ]
  refine anyT_take (i := 5) (oi := { dst := some 25, op := Go.Op.load 3 (Go.Operand.tmp 24), type := 3, pos := "ref.go:40", after := #[{ on := 4, ground := Go.Ground.data }], guard := none }) (v := ?_) rfl (by kernel_rfl) (by kernel_rfl) (by kernel_rfl) (by decide) (by decide) (by kernel_rfl) (by kernel_rfl) (fun _ _ _ h => h) (Or.inl ⟨by rfl, ?_⟩) HH0 inv (fun inv => ?_)
  rotate_left
  · intro w hSw
    try dsimp only at hSw
    go_simp
    try with_reducible rfl
  simp only [Act.put, List.setIfInBounds_toArray, List.set_cons_zero, List.set_cons_succ]
  refine anyT_next (i := 3) (o := { dst := some 23, op := Go.Op.call { callee := Go.Callee.value (Go.Operand.func 28), args := #[Go.Operand.tmp 20, Go.Operand.tmp 22], argTypes := #[27, 3] }, type := 62, pos := "ref.go:40", after := #[{ on := 0, ground := Go.Ground.data }, { on := 2, ground := Go.Ground.data }], guard := none }) (by kernel_rfl) rfl (by decide) inv (fun inv K' hK => ?_)
  go_simp
  refine (RRight_any (HWG.out we HBe.out) HV.out a HX.out.1 HX.out.2.1).mono ?_
  rintro e w8 ⟨rv2, rfl, hrv, hb8⟩
  obtain ⟨ro2, rc2, rfl, hrn2⟩ := right_len hrv
  obtain ⟨⟨ro', rc', hro, _, hcs⟩, _⟩ := hrv
  rw [HRL.out] at hro hcs hrn2 ⊢
  obtain ⟨b0, off, e, hcq⟩ := hcs (by omega)
  injection hro with hr1 hr2 hr3
  subst hr1
  subst e
  have cs : w8.cell? ⟨b0, off + n, none⟩ = some (.int .i64 ((rightX G a).getD n 0)) := hcq n hlt
  have hll : n < (rightX G a).length := by rw [HRL.out]; exact hlt
  have hget : (rightX G a).getD n 0 = (rightX G a)[n] := by rw [List.getD_eq_getElem?_getD, List.getElem?_eq_getElem hll]; rfl
  rw [hget] at cs
  have HBN := hid (show behV G (a, (n : Int)) = some (rightX G a)[n] from by rw [HBV.out]; exact List.getElem?_eq_getElem hll)
  generalize (rightX G a)[n] = y at *
  have HB8 := hid (HBe.out.trans (hb8.mono HBe.out.size))
  have HH1 := HS.out w8 HB8.out
  refine hK.out _ _ HH1 ?_
  clear hK K' hb8 HH0 hcs hcq hget hr2 hr3
  try simp only [Act.put, List.setIfInBounds_toArray, List.set_cons_zero, List.set_cons_succ]
  refine anyT_next (i := 6) (o := { dst := some 26, op := Go.Op.indexAddr 62 (Go.Operand.tmp 23) (Go.Operand.tmp 25), type := 0, pos := "ref.go:40", after := #[{ on := 3, ground := Go.Ground.data }, { on := 5, ground := Go.Ground.data }], guard := none }) (by kernel_rfl) rfl (by decide) inv (fun inv K' hK => ?_)
  go_simp
  refine hK.out _ _ HH1 ?_
  clear hK K'
  try simp only [Act.put, List.setIfInBounds_toArray, List.set_cons_zero, List.set_cons_succ]
  refine anyT_next (i := 7) (o := { dst := some 27, op := Go.Op.load 29 (Go.Operand.tmp 26), type := 29, pos := "ref.go:40", after := #[{ on := 6, ground := Go.Ground.data }], guard := none }) (by kernel_rfl) rfl (by decide) inv (fun inv K' hK => ?_)
  go_simp
  refine hK.out _ _ HH1 ?_
  clear hK K'
  try simp only [Act.put, List.setIfInBounds_toArray, List.set_cons_zero, List.set_cons_succ]
  refine anyT_next (i := 8) (o := { dst := some 4, op := Go.Op.assign (Go.Operand.tmp 27), type := 29, pos := "ref.go:40", after := #[{ on := 7, ground := Go.Ground.data }, { on := 3, ground := Go.Ground.chain }, { on := 0, ground := Go.Ground.phase }, { on := 1, ground := Go.Ground.phase }, { on := 2, ground := Go.Ground.phase }, { on := 3, ground := Go.Ground.phase }, { on := 4, ground := Go.Ground.phase }, { on := 5, ground := Go.Ground.phase }, { on := 6, ground := Go.Ground.phase }, { on := 7, ground := Go.Ground.phase }], guard := none }) (by kernel_rfl) rfl (by decide) inv (fun inv K' hK => ?_)
  go_simp
  refine hK.out _ _ HH1 ?_
  clear hK K'
  try simp only [Act.put, List.setIfInBounds_toArray, List.set_cons_zero, List.set_cons_succ]
  refine anyT_one (i := 9) (o := { dst := some 5, op := Go.Op.assign (Go.Operand.const (Go.Value.bool true)), type := 4, pos := "ref.go:40", after := #[{ on := 8, ground := Go.Ground.chain }, { on := 0, ground := Go.Ground.phase }, { on := 1, ground := Go.Ground.phase }, { on := 2, ground := Go.Ground.phase }, { on := 3, ground := Go.Ground.phase }, { on := 4, ground := Go.Ground.phase }, { on := 5, ground := Go.Ground.phase }, { on := 6, ground := Go.Ground.phase }, { on := 7, ground := Go.Ground.phase }, { on := 8, ground := Go.Ground.phase }], guard := none }) (by kernel_rfl) rfl (fun K' hK => ?_)
  go_simp
  refine hK.out _ _ (fun h => absurd h (by decide)) ?_
  clear hK K'
  try simp only [Act.put, List.setIfInBounds_toArray, List.set_cons_zero, List.set_cons_succ]
  refine anyT_done (by kernel_rfl) ?_ _
  have HB9 := hid (HB2.out.trans (HB8.out.mono HB2.out.size))
  clear HBV
  go_wp2_with fail
  refine bodyPost_ret (results_tmp2 rfl _ _ _) rfl ?_
  refine ⟨?_, HB9.out⟩
  rw [HBN.out]
  rfl
end Go.Proofs.YtjpbhbfklkipkaaDoor
