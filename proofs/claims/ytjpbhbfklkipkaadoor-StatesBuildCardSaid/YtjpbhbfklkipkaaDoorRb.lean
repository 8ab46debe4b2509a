/- The document's answers: right sides, which items there are, what is behind a dot. -/
import Derived.Test.YtjpbhbfklkipkaaDoorRa
namespace Go.Proofs.YtjpbhbfklkipkaaDoor
open Go Go.RowKit Go.Lib
open X14 (It rightX thereX behX)
set_option linter.unusedVariables false
set_option linter.unusedSimpArgs false

def isV (G : GD) (x : It) : Bool := validB G && thereX G x
def behV (G : GD) (x : It) : Option Int := if validB G = true then behX G x else none
set_option maxRecDepth 100000 in
set_option maxHeartbeats 8000000 in
theorem RIs_any {G : GD} {gv : Value} {w : World} (h : Gram w gv G) (x : It) :
    Calls Tryd.prog 27 #[gv, itV x] w fun e w' => e = .returned (.bool (isV G x)) ∧ Below w.heap.size w w' := by
  have HGr := hid h
  obtain ⟨tv, ov, sv, pv, tf, rv, h⟩ := h
  obtain ⟨W1, B, hW1, hB, c0, c1, c2, c3, c4, hG, hb, hsz⟩ := gr_box h
  have hgv := h.eq
  subst hgv hB
  have e1 := hW1.symm
  obtain ⟨W2, e2⟩ : ∃ W2, W1.alloc (.cells #[.int .i64 x.1, .int .i64 x.2] 39) = W2 := ⟨_, rfl⟩
  have hb2 : Below W1.heap.size W1 W2 := by rw [← e2]; exact (Below.refl _ _).alloc (Nat.le_refl _) _
  have n2 : W2.heap[W1.heap.size]? = some (.cells #[.int .i64 x.1, .int .i64 x.2] 39 (0, 0)) := by rw [← e2]; exact heap_alloc_new _ _
  obtain ⟨pa, pc, rfl, hpn, hpc⟩ := hG.prods
  have lW : W1.heap.size < W2.heap.size := (Array.getElem?_eq_some_iff.1 n2).1
  have lB : w.heap.size < W1.heap.size := World.block_lt_of_cell? W1 _ c3
  have HB2 := hid (hb.trans (hb2.mono hsz))
  have c0 := cell_below hb2 c0
  have c1 := cell_below hb2 c1
  have c2 := cell_below hb2 c2
  have c3 := cell_below hb2 c3
  have c4 := cell_below hb2 c4
  have HN2 := hid n2
  have HC := hid (And.intro c0 (And.intro c1 (And.intro c2 (And.intro c3 c4))))
  have hfin : ∀ (W3 : World), Below W2.heap.size W2 W3 → Gram W3 (.agg #[tv, ov, sv, .slice pa G.prods.length pc, .int .i64 G.start]) G := fun W3 hC => HGr.out.below (HB2.out.trans (hC.mono HB2.out.size))
  have HWG := hid hfin
  have KV := hid (RValid_any (hG.mono hb2))
  obtain ⟨vv, hvv⟩ : ∃ vv, validB G = vv := ⟨_, rfl⟩
  have HVV := hid hvv
  rw [hvv] at KV
  unfold itV
  clear h hG hpc hW1 hb hb2 n2 hfin hvv
  obtain ⟨a, b⟩ := x
  dsimp only at *
  have HTX := hid (show isV G (a, b) = (vv && decide (-1 ≤ a ∧ a < (G.prods.length : Int) ∧ 0 ≤ b ∧ b ≤ ((rightX G a).length : Int))) from by unfold isV; rw [HVV.out]; rfl)
  obtain ⟨IV, hIV⟩ : ∃ IV, isV G (a, b) = IV := ⟨_, rfl⟩
  rw [hIV] at HTX
  rw [hIV]
  clear hIV
  go_enter Tryd.func27, Tryd.ntmps27
  go_wp2_with fail
  refine KV.out.mono ?_
  rintro e w3 ⟨rfl, hb3⟩
  have HB3 := hid (HB2.out.trans (hb3.mono HB2.out.size))
  have n3 := (hb3.block _ lW).trans HN2.out
  have HF0 : Hid (∀ w', Below w3.heap.size w3 w' → w'.cell? ⟨W1.heap.size, 0, none⟩ = some (.int .i64 a)) := hid fun w' hC => cell_below hC (Lib.cell_of_heap n3 0)
  have HF1 : Hid (∀ w', Below w3.heap.size w3 w' → w'.cell? ⟨W1.heap.size, 1, none⟩ = some (.int .i64 b)) := hid fun w' hC => cell_below hC (Lib.cell_of_heap n3 1)
  have HF2 : Hid (∀ w', Below w3.heap.size w3 w' → w'.cell? ⟨w.heap.size, 3, none⟩ = some (.slice pa G.prods.length pc)) := hid fun w' hC => cell_below hC (cell_below hb3 HC.out.2.2.2.1)
  have hgg : ∀ w', Below w3.heap.size w3 w' → w'.cell? ⟨w.heap.size, 0, none⟩ = some tv ∧ w'.cell? ⟨w.heap.size, 1, none⟩ = some ov ∧ w'.cell? ⟨w.heap.size, 2, none⟩ = some sv ∧ w'.cell? ⟨w.heap.size, 4, none⟩ = some (.int .i64 G.start) := fun w' hC =>
    ⟨cell_below hC (cell_below hb3 HC.out.1), cell_below hC (cell_below hb3 HC.out.2.1), cell_below hC (cell_below hb3 HC.out.2.2.1), cell_below hC (cell_below hb3 HC.out.2.2.2.2)⟩
  have HGc := hid hgg
  have HW3 := hid (show ∀ w', Below w3.heap.size w3 w' → Gram w' (.agg #[tv, ov, sv, .slice pa G.prods.length pc, .int .i64 G.start]) G from fun w' hC => HWG.out w' (hb3.trans (hC.mono hb3.size)))
  have hl3 : w.heap.size < w3.heap.size := by have := hb3.size; omega
  clear hb3 n3 hgg KV e1 e2 c0 c1 c2 c3 c4 HC HWG
  cases vv
  · obtain rfl : false = IV := HTX.out.symm
    clear HTX
    go_wp2_with fail
    refine wp_region_below (by kernel_rfl) (by kernel_rfl) ?_
    with_reducible refine BigFrame.wpQuiet_want (by kernel_rfl) (fun K hK => ?_)
    apply Exists.intro
    refine ⟨fun w' hC => ?_, hK _ ?_⟩
    · unfold Oper.quietAt
      go_simp
      first | with_reducible rfl | done
    clear hK K
    try simp only [Act.put, List.setIfInBounds_toArray, List.set_cons_zero, List.set_cons_succ]
    with_reducible refine BigFrame.wpQuiet_want (by kernel_rfl) (fun K hK => ?_)
    apply Exists.intro
    refine ⟨fun w' hC => ?_, hK _ ?_⟩
    · unfold Oper.quietAt
      go_simp
      first | with_reducible rfl | done
    clear hK K
    try simp only [Act.put, List.setIfInBounds_toArray, List.set_cons_zero, List.set_cons_succ]
    with_reducible refine BigFrame.wpQuiet_skip (by kernel_rfl) ?_
    try simp only [Act.put, List.setIfInBounds_toArray, List.set_cons_zero, List.set_cons_succ]
    with_reducible refine BigFrame.wpQuiet_skip (by kernel_rfl) ?_
    try simp only [Act.put, List.setIfInBounds_toArray, List.set_cons_zero, List.set_cons_succ]
    with_reducible refine BigFrame.wpQuiet_skip (by kernel_rfl) ?_
    try simp only [Act.put, List.setIfInBounds_toArray, List.set_cons_zero, List.set_cons_succ]
    with_reducible refine BigFrame.wpQuiet_want (by kernel_rfl) (fun K hK => ?_)
    apply Exists.intro
    refine ⟨fun w' hC => ?_, hK _ ?_⟩
    · unfold Oper.quietAt
      go_simp
      first | with_reducible rfl | done
    clear hK K
    try simp only [Act.put, List.setIfInBounds_toArray, List.set_cons_zero, List.set_cons_succ]
    with_reducible refine BigFrame.wpQuiet_want (by kernel_rfl) (fun K hK => ?_)
    apply Exists.intro
    refine ⟨fun w' hC => ?_, hK _ ?_⟩
    · unfold Oper.quietAt
      go_simp
      first | with_reducible rfl | done
    clear hK K
    try simp only [Act.put, List.setIfInBounds_toArray, List.set_cons_zero, List.set_cons_succ]
    with_reducible refine BigFrame.wpQuiet_skip (by kernel_rfl) ?_
    try simp only [Act.put, List.setIfInBounds_toArray, List.set_cons_zero, List.set_cons_succ]
    with_reducible refine BigFrame.wpQuiet_skip (by kernel_rfl) ?_
    try simp only [Act.put, List.setIfInBounds_toArray, List.set_cons_zero, List.set_cons_succ]
    with_reducible refine BigFrame.wpQuiet_skip (by kernel_rfl) ?_
    try simp only [Act.put, List.setIfInBounds_toArray, List.set_cons_zero, List.set_cons_succ]
    with_reducible refine BigFrame.wpQuiet_skip (by kernel_rfl) ?_
    try simp only [Act.put, List.setIfInBounds_toArray, List.set_cons_zero, List.set_cons_succ]
    with_reducible refine BigFrame.wpQuiet_skip (by kernel_rfl) ?_
    try simp only [Act.put, List.setIfInBounds_toArray, List.set_cons_zero, List.set_cons_succ]
    with_reducible refine BigFrame.wpQuiet_skip (by kernel_rfl) ?_
    try simp only [Act.put, List.setIfInBounds_toArray, List.set_cons_zero, List.set_cons_succ]
    with_reducible refine BigFrame.wpQuiet_want (by kernel_rfl) (fun K hK => ?_)
    apply Exists.intro
    refine ⟨fun w' hC => ?_, hK _ ?_⟩
    · unfold Oper.quietAt
      go_simp
      first | with_reducible rfl | done
    clear hK K
    try simp only [Act.put, List.setIfInBounds_toArray, List.set_cons_zero, List.set_cons_succ]
    with_reducible refine BigFrame.wpQuiet_want (by kernel_rfl) (fun K hK => ?_)
    apply Exists.intro
    refine ⟨fun w' hC => ?_, hK _ ?_⟩
    · unfold Oper.quietAt
      go_simp
      first | with_reducible rfl | done
    clear hK K
    try simp only [Act.put, List.setIfInBounds_toArray, List.set_cons_zero, List.set_cons_succ]
    with_reducible refine BigFrame.wpQuiet_skip (by kernel_rfl) ?_
    try simp only [Act.put, List.setIfInBounds_toArray, List.set_cons_zero, List.set_cons_succ]
    with_reducible refine BigFrame.wpQuiet_skip (by kernel_rfl) ?_
    try simp only [Act.put, List.setIfInBounds_toArray, List.set_cons_zero, List.set_cons_succ]
    with_reducible refine BigFrame.wpQuiet_skip (by kernel_rfl) ?_
    try simp only [Act.put, List.setIfInBounds_toArray, List.set_cons_zero, List.set_cons_succ]
    with_reducible refine BigFrame.wpQuiet_want (by kernel_rfl) (fun K hK => ?_)
    apply Exists.intro
    refine ⟨fun w' hC => ?_, hK _ ?_⟩
    · unfold Oper.quietAt
      go_simp
      first | with_reducible rfl | done
    clear hK K
    try simp only [Act.put, List.setIfInBounds_toArray, List.set_cons_zero, List.set_cons_succ]
    with_reducible refine BigFrame.wpQuiet_want (by kernel_rfl) (fun K hK => ?_)
    apply Exists.intro
    refine ⟨fun w' hC => ?_, hK _ ?_⟩
    · unfold Oper.quietAt
      go_simp
      first | with_reducible rfl | done
    clear hK K
    try simp only [Act.put, List.setIfInBounds_toArray, List.set_cons_zero, List.set_cons_succ]
    with_reducible refine BigFrame.wpQuiet_skip (by kernel_rfl) ?_
    try simp only [Act.put, List.setIfInBounds_toArray, List.set_cons_zero, List.set_cons_succ]
    with_reducible refine BigFrame.wpQuiet_skip (by kernel_rfl) ?_
    try simp only [Act.put, List.setIfInBounds_toArray, List.set_cons_zero, List.set_cons_succ]
    with_reducible refine BigFrame.wpQuiet_skip (by kernel_rfl) ?_
    try simp only [Act.put, List.setIfInBounds_toArray, List.set_cons_zero, List.set_cons_succ]
    with_reducible refine BigFrame.wpQuiet_skip (by kernel_rfl) ?_
    try simp only [Act.put, List.setIfInBounds_toArray, List.set_cons_zero, List.set_cons_succ]
    with_reducible refine BigFrame.wpQuiet_skip (by kernel_rfl) ?_
    try simp only [Act.put, List.setIfInBounds_toArray, List.set_cons_zero, List.set_cons_succ]
    with_reducible refine BigFrame.wpQuiet_skip (by kernel_rfl) ?_
    try simp only [Act.put, List.setIfInBounds_toArray, List.set_cons_zero, List.set_cons_succ]
    with_reducible refine BigFrame.wpQuiet_skip (by kernel_rfl) ?_
    try simp only [Act.put, List.setIfInBounds_toArray, List.set_cons_zero, List.set_cons_succ]
    with_reducible refine BigFrame.wpQuiet_skip (by kernel_rfl) ?_
    try simp only [Act.put, List.setIfInBounds_toArray, List.set_cons_zero, List.set_cons_succ]
    with_reducible refine BigFrame.wpQuiet_want (by kernel_rfl) (fun K hK => ?_)
    apply Exists.intro
    refine ⟨fun w' hC => ?_, hK _ ?_⟩
    · unfold Oper.quietAt
      go_simp
      first | with_reducible rfl | done
    clear hK K
    try simp only [Act.put, List.setIfInBounds_toArray, List.set_cons_zero, List.set_cons_succ]
    with_reducible refine BigFrame.wpQuiet_want (by kernel_rfl) (fun K hK => ?_)
    apply Exists.intro
    refine ⟨fun w' hC => ?_, hK _ ?_⟩
    · unfold Oper.quietAt
      go_simp
      first | with_reducible rfl | done
    clear hK K
    try simp only [Act.put, List.setIfInBounds_toArray, List.set_cons_zero, List.set_cons_succ]
    refine wpQuiet_nil ?_
    intro w6 hb6
    have HB6 := hid (HB3.out.trans (hb6.mono HB3.out.size))
    clear hb6
    go_wp2_with fail
    go_ret
    exact ⟨rfl, HB6.out⟩
  rw [Bool.true_and] at HTX
  by_cases h1 : -1 ≤ a ∧ a < (G.prods.length : Int) ∧ 0 ≤ b
  case neg =>
    obtain rfl : false = IV := by rw [HTX.out]; exact (decide_eq_false (fun h => h1 ⟨h.1, h.2.1, h.2.2.1⟩)).symm
    clear HTX
    generalize G.prods.length = np at *
    have hx : (¬ -1 ≤ a) ∨ (-1 ≤ a ∧ ¬ a < (np : Int)) ∨ (-1 ≤ a ∧ a < (np : Int) ∧ ¬ 0 ≤ b) := by omega
    have HTX := hid trivial
    clear h1
    rcases hx with k1 | ⟨k1, k2⟩ | ⟨k1, k2, k3⟩
    · have d1 : decide (-1 ≤ a) = false := decide_eq_false k1
      clear HTX
      go_wp2_with fail
      refine wp_region_below (by kernel_rfl) (by kernel_rfl) ?_
      with_reducible refine BigFrame.wpQuiet_want (by kernel_rfl) (fun K hK => ?_)
      apply Exists.intro
      refine ⟨fun w' hC => ?_, hK _ ?_⟩
      · unfold Oper.quietAt
        go_simp
        first | with_reducible rfl | done
      clear hK K
      try simp only [Act.put, List.setIfInBounds_toArray, List.set_cons_zero, List.set_cons_succ]
      with_reducible refine BigFrame.wpQuiet_want (by kernel_rfl) (fun K hK => ?_)
      apply Exists.intro
      refine ⟨fun w' hC => ?_, hK _ ?_⟩
      · unfold Oper.quietAt
        go_simp
        first | with_reducible rfl | done
      clear hK K
      try simp only [Act.put, List.setIfInBounds_toArray, List.set_cons_zero, List.set_cons_succ]
      with_reducible refine BigFrame.wpQuiet_want (by kernel_rfl) (fun K hK => ?_)
      apply Exists.intro
      refine ⟨fun w' hC => ?_, hK _ ?_⟩
      · unfold Oper.quietAt
        go_simp
        first | with_reducible rfl | done
      clear hK K
      try simp only [Act.put, List.setIfInBounds_toArray, List.set_cons_zero, List.set_cons_succ]
      with_reducible refine BigFrame.wpQuiet_want (by kernel_rfl) (fun K hK => ?_)
      apply Exists.intro
      refine ⟨fun w' hC => ?_, hK _ ?_⟩
      · have f0' := HF0.out w' hC
        have f1' := HF1.out w' hC
        have f2' := HF2.out w' hC
        unfold Oper.quietAt
        go_simp
        first | with_reducible rfl | done
      clear hK K
      try simp only [Act.put, List.setIfInBounds_toArray, List.set_cons_zero, List.set_cons_succ]
      with_reducible refine BigFrame.wpQuiet_want (by kernel_rfl) (fun K hK => ?_)
      apply Exists.intro
      refine ⟨fun w' hC => ?_, hK _ ?_⟩
      · unfold Oper.quietAt
        go_simp
        first | with_reducible rfl | done
      clear hK K
      try simp only [Act.put, List.setIfInBounds_toArray, List.set_cons_zero, List.set_cons_succ]
      with_reducible refine BigFrame.wpQuiet_want (by kernel_rfl) (fun K hK => ?_)
      apply Exists.intro
      refine ⟨fun w' hC => ?_, hK _ ?_⟩
      · unfold Oper.quietAt
        go_simp
        first | with_reducible rfl | done
      clear hK K
      try simp only [Act.put, List.setIfInBounds_toArray, List.set_cons_zero, List.set_cons_succ]
      with_reducible refine BigFrame.wpQuiet_want (by kernel_rfl) (fun K hK => ?_)
      apply Exists.intro
      refine ⟨fun w' hC => ?_, hK _ ?_⟩
      · unfold Oper.quietAt
        go_simp
        first | with_reducible rfl | done
      clear hK K
      try simp only [Act.put, List.setIfInBounds_toArray, List.set_cons_zero, List.set_cons_succ]
      with_reducible refine BigFrame.wpQuiet_skip (by kernel_rfl) ?_
      try simp only [Act.put, List.setIfInBounds_toArray, List.set_cons_zero, List.set_cons_succ]
      with_reducible refine BigFrame.wpQuiet_skip (by kernel_rfl) ?_
      try simp only [Act.put, List.setIfInBounds_toArray, List.set_cons_zero, List.set_cons_succ]
      with_reducible refine BigFrame.wpQuiet_skip (by kernel_rfl) ?_
      try simp only [Act.put, List.setIfInBounds_toArray, List.set_cons_zero, List.set_cons_succ]
      with_reducible refine BigFrame.wpQuiet_skip (by kernel_rfl) ?_
      try simp only [Act.put, List.setIfInBounds_toArray, List.set_cons_zero, List.set_cons_succ]
      with_reducible refine BigFrame.wpQuiet_skip (by kernel_rfl) ?_
      try simp only [Act.put, List.setIfInBounds_toArray, List.set_cons_zero, List.set_cons_succ]
      with_reducible refine BigFrame.wpQuiet_skip (by kernel_rfl) ?_
      try simp only [Act.put, List.setIfInBounds_toArray, List.set_cons_zero, List.set_cons_succ]
      with_reducible refine BigFrame.wpQuiet_want (by kernel_rfl) (fun K hK => ?_)
      apply Exists.intro
      refine ⟨fun w' hC => ?_, hK _ ?_⟩
      · unfold Oper.quietAt
        go_simp
        first | with_reducible rfl | done
      clear hK K
      try simp only [Act.put, List.setIfInBounds_toArray, List.set_cons_zero, List.set_cons_succ]
      with_reducible refine BigFrame.wpQuiet_want (by kernel_rfl) (fun K hK => ?_)
      apply Exists.intro
      refine ⟨fun w' hC => ?_, hK _ ?_⟩
      · unfold Oper.quietAt
        go_simp
        first | with_reducible rfl | done
      clear hK K
      try simp only [Act.put, List.setIfInBounds_toArray, List.set_cons_zero, List.set_cons_succ]
      with_reducible refine BigFrame.wpQuiet_skip (by kernel_rfl) ?_
      try simp only [Act.put, List.setIfInBounds_toArray, List.set_cons_zero, List.set_cons_succ]
      with_reducible refine BigFrame.wpQuiet_skip (by kernel_rfl) ?_
      try simp only [Act.put, List.setIfInBounds_toArray, List.set_cons_zero, List.set_cons_succ]
      with_reducible refine BigFrame.wpQuiet_skip (by kernel_rfl) ?_
      try simp only [Act.put, List.setIfInBounds_toArray, List.set_cons_zero, List.set_cons_succ]
      with_reducible refine BigFrame.wpQuiet_want (by kernel_rfl) (fun K hK => ?_)
      apply Exists.intro
      refine ⟨fun w' hC => ?_, hK _ ?_⟩
      · unfold Oper.quietAt
        go_simp
        first | with_reducible rfl | done
      clear hK K
      try simp only [Act.put, List.setIfInBounds_toArray, List.set_cons_zero, List.set_cons_succ]
      with_reducible refine BigFrame.wpQuiet_want (by kernel_rfl) (fun K hK => ?_)
      apply Exists.intro
      refine ⟨fun w' hC => ?_, hK _ ?_⟩
      · unfold Oper.quietAt
        go_simp
        first | with_reducible rfl | done
      clear hK K
      try simp only [Act.put, List.setIfInBounds_toArray, List.set_cons_zero, List.set_cons_succ]
      with_reducible refine BigFrame.wpQuiet_skip (by kernel_rfl) ?_
      try simp only [Act.put, List.setIfInBounds_toArray, List.set_cons_zero, List.set_cons_succ]
      with_reducible refine BigFrame.wpQuiet_skip (by kernel_rfl) ?_
      try simp only [Act.put, List.setIfInBounds_toArray, List.set_cons_zero, List.set_cons_succ]
      with_reducible refine BigFrame.wpQuiet_skip (by kernel_rfl) ?_
      try simp only [Act.put, List.setIfInBounds_toArray, List.set_cons_zero, List.set_cons_succ]
      with_reducible refine BigFrame.wpQuiet_skip (by kernel_rfl) ?_
      try simp only [Act.put, List.setIfInBounds_toArray, List.set_cons_zero, List.set_cons_succ]
      with_reducible refine BigFrame.wpQuiet_skip (by kernel_rfl) ?_
      try simp only [Act.put, List.setIfInBounds_toArray, List.set_cons_zero, List.set_cons_succ]
      with_reducible refine BigFrame.wpQuiet_skip (by kernel_rfl) ?_
      try simp only [Act.put, List.setIfInBounds_toArray, List.set_cons_zero, List.set_cons_succ]
      with_reducible refine BigFrame.wpQuiet_skip (by kernel_rfl) ?_
      try simp only [Act.put, List.setIfInBounds_toArray, List.set_cons_zero, List.set_cons_succ]
      with_reducible refine BigFrame.wpQuiet_skip (by kernel_rfl) ?_
      try simp only [Act.put, List.setIfInBounds_toArray, List.set_cons_zero, List.set_cons_succ]
      with_reducible refine BigFrame.wpQuiet_want (by kernel_rfl) (fun K hK => ?_)
      apply Exists.intro
      refine ⟨fun w' hC => ?_, hK _ ?_⟩
      · unfold Oper.quietAt
        go_simp
        first | with_reducible rfl | done
      clear hK K
      try simp only [Act.put, List.setIfInBounds_toArray, List.set_cons_zero, List.set_cons_succ]
      with_reducible refine BigFrame.wpQuiet_want (by kernel_rfl) (fun K hK => ?_)
      apply Exists.intro
      refine ⟨fun w' hC => ?_, hK _ ?_⟩
      · unfold Oper.quietAt
        go_simp
        first | with_reducible rfl | done
      clear hK K
      try simp only [Act.put, List.setIfInBounds_toArray, List.set_cons_zero, List.set_cons_succ]
      refine wpQuiet_nil ?_
      intro w6 hb6
      have HB6 := hid (HB3.out.trans (hb6.mono HB3.out.size))
      clear hb6
      go_wp2_with fail
      go_ret
      exact ⟨rfl, HB6.out⟩
    · have d1 : decide (-1 ≤ a) = true := decide_eq_true k1
      have d2 : decide (a < (np : Int)) = false := decide_eq_false k2
      clear HTX
      go_wp2_with fail
      refine wp_region_below (by kernel_rfl) (by kernel_rfl) ?_
      with_reducible refine BigFrame.wpQuiet_want (by kernel_rfl) (fun K hK => ?_)
      apply Exists.intro
      refine ⟨fun w' hC => ?_, hK _ ?_⟩
      · unfold Oper.quietAt
        go_simp
        first | with_reducible rfl | done
      clear hK K
      try simp only [Act.put, List.setIfInBounds_toArray, List.set_cons_zero, List.set_cons_succ]
      with_reducible refine BigFrame.wpQuiet_want (by kernel_rfl) (fun K hK => ?_)
      apply Exists.intro
      refine ⟨fun w' hC => ?_, hK _ ?_⟩
      · unfold Oper.quietAt
        go_simp
        first | with_reducible rfl | done
      clear hK K
      try simp only [Act.put, List.setIfInBounds_toArray, List.set_cons_zero, List.set_cons_succ]
      with_reducible refine BigFrame.wpQuiet_want (by kernel_rfl) (fun K hK => ?_)
      apply Exists.intro
      refine ⟨fun w' hC => ?_, hK _ ?_⟩
      · unfold Oper.quietAt
        go_simp
        first | with_reducible rfl | done
      clear hK K
      try simp only [Act.put, List.setIfInBounds_toArray, List.set_cons_zero, List.set_cons_succ]
      with_reducible refine BigFrame.wpQuiet_want (by kernel_rfl) (fun K hK => ?_)
      apply Exists.intro
      refine ⟨fun w' hC => ?_, hK _ ?_⟩
      · have f0' := HF0.out w' hC
        have f1' := HF1.out w' hC
        have f2' := HF2.out w' hC
        unfold Oper.quietAt
        go_simp
        first | with_reducible rfl | done
      clear hK K
      try simp only [Act.put, List.setIfInBounds_toArray, List.set_cons_zero, List.set_cons_succ]
      with_reducible refine BigFrame.wpQuiet_want (by kernel_rfl) (fun K hK => ?_)
      apply Exists.intro
      refine ⟨fun w' hC => ?_, hK _ ?_⟩
      · unfold Oper.quietAt
        go_simp
        first | with_reducible rfl | done
      clear hK K
      try simp only [Act.put, List.setIfInBounds_toArray, List.set_cons_zero, List.set_cons_succ]
      with_reducible refine BigFrame.wpQuiet_want (by kernel_rfl) (fun K hK => ?_)
      apply Exists.intro
      refine ⟨fun w' hC => ?_, hK _ ?_⟩
      · unfold Oper.quietAt
        go_simp
        first | with_reducible rfl | done
      clear hK K
      try simp only [Act.put, List.setIfInBounds_toArray, List.set_cons_zero, List.set_cons_succ]
      with_reducible refine BigFrame.wpQuiet_want (by kernel_rfl) (fun K hK => ?_)
      apply Exists.intro
      refine ⟨fun w' hC => ?_, hK _ ?_⟩
      · unfold Oper.quietAt
        go_simp
        first | with_reducible rfl | done
      clear hK K
      try simp only [Act.put, List.setIfInBounds_toArray, List.set_cons_zero, List.set_cons_succ]
      with_reducible refine BigFrame.wpQuiet_want (by kernel_rfl) (fun K hK => ?_)
      apply Exists.intro
      refine ⟨fun w' hC => ?_, hK _ ?_⟩
      · unfold Oper.quietAt
        go_simp
        first | with_reducible rfl | done
      clear hK K
      try simp only [Act.put, List.setIfInBounds_toArray, List.set_cons_zero, List.set_cons_succ]
      with_reducible refine BigFrame.wpQuiet_want (by kernel_rfl) (fun K hK => ?_)
      apply Exists.intro
      refine ⟨fun w' hC => ?_, hK _ ?_⟩
      · have f0' := HF0.out w' hC
        have f1' := HF1.out w' hC
        have f2' := HF2.out w' hC
        unfold Oper.quietAt
        go_simp
        first | with_reducible rfl | done
      clear hK K
      try simp only [Act.put, List.setIfInBounds_toArray, List.set_cons_zero, List.set_cons_succ]
      with_reducible refine BigFrame.wpQuiet_want (by kernel_rfl) (fun K hK => ?_)
      apply Exists.intro
      refine ⟨fun w' hC => ?_, hK _ ?_⟩
      · unfold Oper.quietAt
        go_simp
        first | with_reducible rfl | done
      clear hK K
      try simp only [Act.put, List.setIfInBounds_toArray, List.set_cons_zero, List.set_cons_succ]
      with_reducible refine BigFrame.wpQuiet_want (by kernel_rfl) (fun K hK => ?_)
      apply Exists.intro
      refine ⟨fun w' hC => ?_, hK _ ?_⟩
      · have f0' := HF0.out w' hC
        have f1' := HF1.out w' hC
        have f2' := HF2.out w' hC
        unfold Oper.quietAt
        go_simp
        first | with_reducible rfl | done
      clear hK K
      try simp only [Act.put, List.setIfInBounds_toArray, List.set_cons_zero, List.set_cons_succ]
      with_reducible refine BigFrame.wpQuiet_want (by kernel_rfl) (fun K hK => ?_)
      apply Exists.intro
      refine ⟨fun w' hC => ?_, hK _ ?_⟩
      · unfold Oper.quietAt
        go_simp
        first | with_reducible rfl | done
      clear hK K
      try simp only [Act.put, List.setIfInBounds_toArray, List.set_cons_zero, List.set_cons_succ]
      with_reducible refine BigFrame.wpQuiet_want (by kernel_rfl) (fun K hK => ?_)
      apply Exists.intro
      refine ⟨fun w' hC => ?_, hK _ ?_⟩
      · unfold Oper.quietAt
        go_simp
        first | with_reducible rfl | done
      clear hK K
      try simp only [Act.put, List.setIfInBounds_toArray, List.set_cons_zero, List.set_cons_succ]
      with_reducible refine BigFrame.wpQuiet_want (by kernel_rfl) (fun K hK => ?_)
      apply Exists.intro
      refine ⟨fun w' hC => ?_, hK _ ?_⟩
      · unfold Oper.quietAt
        go_simp
        first | with_reducible rfl | done
      clear hK K
      try simp only [Act.put, List.setIfInBounds_toArray, List.set_cons_zero, List.set_cons_succ]
      with_reducible refine BigFrame.wpQuiet_want (by kernel_rfl) (fun K hK => ?_)
      apply Exists.intro
      refine ⟨fun w' hC => ?_, hK _ ?_⟩
      · unfold Oper.quietAt
        go_simp
        first | with_reducible rfl | done
      clear hK K
      try simp only [Act.put, List.setIfInBounds_toArray, List.set_cons_zero, List.set_cons_succ]
      with_reducible refine BigFrame.wpQuiet_skip (by kernel_rfl) ?_
      try simp only [Act.put, List.setIfInBounds_toArray, List.set_cons_zero, List.set_cons_succ]
      with_reducible refine BigFrame.wpQuiet_skip (by kernel_rfl) ?_
      try simp only [Act.put, List.setIfInBounds_toArray, List.set_cons_zero, List.set_cons_succ]
      with_reducible refine BigFrame.wpQuiet_skip (by kernel_rfl) ?_
      try simp only [Act.put, List.setIfInBounds_toArray, List.set_cons_zero, List.set_cons_succ]
      with_reducible refine BigFrame.wpQuiet_want (by kernel_rfl) (fun K hK => ?_)
      apply Exists.intro
      refine ⟨fun w' hC => ?_, hK _ ?_⟩
      · unfold Oper.quietAt
        go_simp
        first | with_reducible rfl | done
      clear hK K
      try simp only [Act.put, List.setIfInBounds_toArray, List.set_cons_zero, List.set_cons_succ]
      with_reducible refine BigFrame.wpQuiet_want (by kernel_rfl) (fun K hK => ?_)
      apply Exists.intro
      refine ⟨fun w' hC => ?_, hK _ ?_⟩
      · unfold Oper.quietAt
        go_simp
        first | with_reducible rfl | done
      clear hK K
      try simp only [Act.put, List.setIfInBounds_toArray, List.set_cons_zero, List.set_cons_succ]
      with_reducible refine BigFrame.wpQuiet_skip (by kernel_rfl) ?_
      try simp only [Act.put, List.setIfInBounds_toArray, List.set_cons_zero, List.set_cons_succ]
      with_reducible refine BigFrame.wpQuiet_skip (by kernel_rfl) ?_
      try simp only [Act.put, List.setIfInBounds_toArray, List.set_cons_zero, List.set_cons_succ]
      with_reducible refine BigFrame.wpQuiet_skip (by kernel_rfl) ?_
      try simp only [Act.put, List.setIfInBounds_toArray, List.set_cons_zero, List.set_cons_succ]
      with_reducible refine BigFrame.wpQuiet_skip (by kernel_rfl) ?_
      try simp only [Act.put, List.setIfInBounds_toArray, List.set_cons_zero, List.set_cons_succ]
      with_reducible refine BigFrame.wpQuiet_skip (by kernel_rfl) ?_
      try simp only [Act.put, List.setIfInBounds_toArray, List.set_cons_zero, List.set_cons_succ]
      with_reducible refine BigFrame.wpQuiet_skip (by kernel_rfl) ?_
      try simp only [Act.put, List.setIfInBounds_toArray, List.set_cons_zero, List.set_cons_succ]
      with_reducible refine BigFrame.wpQuiet_skip (by kernel_rfl) ?_
      try simp only [Act.put, List.setIfInBounds_toArray, List.set_cons_zero, List.set_cons_succ]
      with_reducible refine BigFrame.wpQuiet_skip (by kernel_rfl) ?_
      try simp only [Act.put, List.setIfInBounds_toArray, List.set_cons_zero, List.set_cons_succ]
      with_reducible refine BigFrame.wpQuiet_want (by kernel_rfl) (fun K hK => ?_)
      apply Exists.intro
      refine ⟨fun w' hC => ?_, hK _ ?_⟩
      · unfold Oper.quietAt
        go_simp
        first | with_reducible rfl | done
      clear hK K
      try simp only [Act.put, List.setIfInBounds_toArray, List.set_cons_zero, List.set_cons_succ]
      with_reducible refine BigFrame.wpQuiet_want (by kernel_rfl) (fun K hK => ?_)
      apply Exists.intro
      refine ⟨fun w' hC => ?_, hK _ ?_⟩
      · unfold Oper.quietAt
        go_simp
        first | with_reducible rfl | done
      clear hK K
      try simp only [Act.put, List.setIfInBounds_toArray, List.set_cons_zero, List.set_cons_succ]
      refine wpQuiet_nil ?_
      intro w6 hb6
      have HB6 := hid (HB3.out.trans (hb6.mono HB3.out.size))
      clear hb6
      go_wp2_with fail
      go_ret
      exact ⟨rfl, HB6.out⟩
    · have d1 : decide (-1 ≤ a) = true := decide_eq_true k1
      have d2 : decide (a < (np : Int)) = true := decide_eq_true k2
      have d3 : decide (0 ≤ b) = false := decide_eq_false k3
      clear HTX
      go_wp2_with fail
      refine wp_region_below (by kernel_rfl) (by kernel_rfl) ?_
      with_reducible refine BigFrame.wpQuiet_want (by kernel_rfl) (fun K hK => ?_)
      apply Exists.intro
      refine ⟨fun w' hC => ?_, hK _ ?_⟩
      · unfold Oper.quietAt
        go_simp
        first | with_reducible rfl | done
      clear hK K
      try simp only [Act.put, List.setIfInBounds_toArray, List.set_cons_zero, List.set_cons_succ]
      with_reducible refine BigFrame.wpQuiet_want (by kernel_rfl) (fun K hK => ?_)
      apply Exists.intro
      refine ⟨fun w' hC => ?_, hK _ ?_⟩
      · unfold Oper.quietAt
        go_simp
        first | with_reducible rfl | done
      clear hK K
      try simp only [Act.put, List.setIfInBounds_toArray, List.set_cons_zero, List.set_cons_succ]
      with_reducible refine BigFrame.wpQuiet_want (by kernel_rfl) (fun K hK => ?_)
      apply Exists.intro
      refine ⟨fun w' hC => ?_, hK _ ?_⟩
      · unfold Oper.quietAt
        go_simp
        first | with_reducible rfl | done
      clear hK K
      try simp only [Act.put, List.setIfInBounds_toArray, List.set_cons_zero, List.set_cons_succ]
      with_reducible refine BigFrame.wpQuiet_want (by kernel_rfl) (fun K hK => ?_)
      apply Exists.intro
      refine ⟨fun w' hC => ?_, hK _ ?_⟩
      · have f0' := HF0.out w' hC
        have f1' := HF1.out w' hC
        have f2' := HF2.out w' hC
        unfold Oper.quietAt
        go_simp
        first | with_reducible rfl | done
      clear hK K
      try simp only [Act.put, List.setIfInBounds_toArray, List.set_cons_zero, List.set_cons_succ]
      with_reducible refine BigFrame.wpQuiet_want (by kernel_rfl) (fun K hK => ?_)
      apply Exists.intro
      refine ⟨fun w' hC => ?_, hK _ ?_⟩
      · unfold Oper.quietAt
        go_simp
        first | with_reducible rfl | done
      clear hK K
      try simp only [Act.put, List.setIfInBounds_toArray, List.set_cons_zero, List.set_cons_succ]
      with_reducible refine BigFrame.wpQuiet_want (by kernel_rfl) (fun K hK => ?_)
      apply Exists.intro
      refine ⟨fun w' hC => ?_, hK _ ?_⟩
      · unfold Oper.quietAt
        go_simp
        first | with_reducible rfl | done
      clear hK K
      try simp only [Act.put, List.setIfInBounds_toArray, List.set_cons_zero, List.set_cons_succ]
      with_reducible refine BigFrame.wpQuiet_want (by kernel_rfl) (fun K hK => ?_)
      apply Exists.intro
      refine ⟨fun w' hC => ?_, hK _ ?_⟩
      · unfold Oper.quietAt
        go_simp
        first | with_reducible rfl | done
      clear hK K
      try simp only [Act.put, List.setIfInBounds_toArray, List.set_cons_zero, List.set_cons_succ]
      with_reducible refine BigFrame.wpQuiet_want (by kernel_rfl) (fun K hK => ?_)
      apply Exists.intro
      refine ⟨fun w' hC => ?_, hK _ ?_⟩
      · unfold Oper.quietAt
        go_simp
        first | with_reducible rfl | done
      clear hK K
      try simp only [Act.put, List.setIfInBounds_toArray, List.set_cons_zero, List.set_cons_succ]
      with_reducible refine BigFrame.wpQuiet_want (by kernel_rfl) (fun K hK => ?_)
      apply Exists.intro
      refine ⟨fun w' hC => ?_, hK _ ?_⟩
      · have f0' := HF0.out w' hC
        have f1' := HF1.out w' hC
        have f2' := HF2.out w' hC
        unfold Oper.quietAt
        go_simp
        first | with_reducible rfl | done
      clear hK K
      try simp only [Act.put, List.setIfInBounds_toArray, List.set_cons_zero, List.set_cons_succ]
      with_reducible refine BigFrame.wpQuiet_want (by kernel_rfl) (fun K hK => ?_)
      apply Exists.intro
      refine ⟨fun w' hC => ?_, hK _ ?_⟩
      · unfold Oper.quietAt
        go_simp
        first | with_reducible rfl | done
      clear hK K
      try simp only [Act.put, List.setIfInBounds_toArray, List.set_cons_zero, List.set_cons_succ]
      with_reducible refine BigFrame.wpQuiet_want (by kernel_rfl) (fun K hK => ?_)
      apply Exists.intro
      refine ⟨fun w' hC => ?_, hK _ ?_⟩
      · have f0' := HF0.out w' hC
        have f1' := HF1.out w' hC
        have f2' := HF2.out w' hC
        unfold Oper.quietAt
        go_simp
        first | with_reducible rfl | done
      clear hK K
      try simp only [Act.put, List.setIfInBounds_toArray, List.set_cons_zero, List.set_cons_succ]
      with_reducible refine BigFrame.wpQuiet_want (by kernel_rfl) (fun K hK => ?_)
      apply Exists.intro
      refine ⟨fun w' hC => ?_, hK _ ?_⟩
      · unfold Oper.quietAt
        go_simp
        first | with_reducible rfl | done
      clear hK K
      try simp only [Act.put, List.setIfInBounds_toArray, List.set_cons_zero, List.set_cons_succ]
      with_reducible refine BigFrame.wpQuiet_want (by kernel_rfl) (fun K hK => ?_)
      apply Exists.intro
      refine ⟨fun w' hC => ?_, hK _ ?_⟩
      · unfold Oper.quietAt
        go_simp
        first | with_reducible rfl | done
      clear hK K
      try simp only [Act.put, List.setIfInBounds_toArray, List.set_cons_zero, List.set_cons_succ]
      with_reducible refine BigFrame.wpQuiet_want (by kernel_rfl) (fun K hK => ?_)
      apply Exists.intro
      refine ⟨fun w' hC => ?_, hK _ ?_⟩
      · unfold Oper.quietAt
        go_simp
        first | with_reducible rfl | done
      clear hK K
      try simp only [Act.put, List.setIfInBounds_toArray, List.set_cons_zero, List.set_cons_succ]
      with_reducible refine BigFrame.wpQuiet_want (by kernel_rfl) (fun K hK => ?_)
      apply Exists.intro
      refine ⟨fun w' hC => ?_, hK _ ?_⟩
      · unfold Oper.quietAt
        go_simp
        first | with_reducible rfl | done
      clear hK K
      try simp only [Act.put, List.setIfInBounds_toArray, List.set_cons_zero, List.set_cons_succ]
      with_reducible refine BigFrame.wpQuiet_want (by kernel_rfl) (fun K hK => ?_)
      apply Exists.intro
      refine ⟨fun w' hC => ?_, hK _ ?_⟩
      · unfold Oper.quietAt
        go_simp
        first | with_reducible rfl | done
      clear hK K
      try simp only [Act.put, List.setIfInBounds_toArray, List.set_cons_zero, List.set_cons_succ]
      with_reducible refine BigFrame.wpQuiet_want (by kernel_rfl) (fun K hK => ?_)
      apply Exists.intro
      refine ⟨fun w' hC => ?_, hK _ ?_⟩
      · have f0' := HF0.out w' hC
        have f1' := HF1.out w' hC
        have f2' := HF2.out w' hC
        unfold Oper.quietAt
        go_simp
        first | with_reducible rfl | done
      clear hK K
      try simp only [Act.put, List.setIfInBounds_toArray, List.set_cons_zero, List.set_cons_succ]
      with_reducible refine BigFrame.wpQuiet_want (by kernel_rfl) (fun K hK => ?_)
      apply Exists.intro
      refine ⟨fun w' hC => ?_, hK _ ?_⟩
      · unfold Oper.quietAt
        go_simp
        first | with_reducible rfl | done
      clear hK K
      try simp only [Act.put, List.setIfInBounds_toArray, List.set_cons_zero, List.set_cons_succ]
      with_reducible refine BigFrame.wpQuiet_want (by kernel_rfl) (fun K hK => ?_)
      apply Exists.intro
      refine ⟨fun w' hC => ?_, hK _ ?_⟩
      · unfold Oper.quietAt
        go_simp
        first | with_reducible rfl | done
      clear hK K
      try simp only [Act.put, List.setIfInBounds_toArray, List.set_cons_zero, List.set_cons_succ]
      with_reducible refine BigFrame.wpQuiet_want (by kernel_rfl) (fun K hK => ?_)
      apply Exists.intro
      refine ⟨fun w' hC => ?_, hK _ ?_⟩
      · unfold Oper.quietAt
        go_simp
        first | with_reducible rfl | done
      clear hK K
      try simp only [Act.put, List.setIfInBounds_toArray, List.set_cons_zero, List.set_cons_succ]
      with_reducible refine BigFrame.wpQuiet_skip (by kernel_rfl) ?_
      try simp only [Act.put, List.setIfInBounds_toArray, List.set_cons_zero, List.set_cons_succ]
      with_reducible refine BigFrame.wpQuiet_skip (by kernel_rfl) ?_
      try simp only [Act.put, List.setIfInBounds_toArray, List.set_cons_zero, List.set_cons_succ]
      with_reducible refine BigFrame.wpQuiet_skip (by kernel_rfl) ?_
      try simp only [Act.put, List.setIfInBounds_toArray, List.set_cons_zero, List.set_cons_succ]
      with_reducible refine BigFrame.wpQuiet_skip (by kernel_rfl) ?_
      try simp only [Act.put, List.setIfInBounds_toArray, List.set_cons_zero, List.set_cons_succ]
      with_reducible refine BigFrame.wpQuiet_skip (by kernel_rfl) ?_
      try simp only [Act.put, List.setIfInBounds_toArray, List.set_cons_zero, List.set_cons_succ]
      with_reducible refine BigFrame.wpQuiet_skip (by kernel_rfl) ?_
      try simp only [Act.put, List.setIfInBounds_toArray, List.set_cons_zero, List.set_cons_succ]
      with_reducible refine BigFrame.wpQuiet_skip (by kernel_rfl) ?_
      try simp only [Act.put, List.setIfInBounds_toArray, List.set_cons_zero, List.set_cons_succ]
      with_reducible refine BigFrame.wpQuiet_skip (by kernel_rfl) ?_
      try simp only [Act.put, List.setIfInBounds_toArray, List.set_cons_zero, List.set_cons_succ]
      with_reducible refine BigFrame.wpQuiet_want (by kernel_rfl) (fun K hK => ?_)
      apply Exists.intro
      refine ⟨fun w' hC => ?_, hK _ ?_⟩
      · unfold Oper.quietAt
        go_simp
        first | with_reducible rfl | done
      clear hK K
      try simp only [Act.put, List.setIfInBounds_toArray, List.set_cons_zero, List.set_cons_succ]
      with_reducible refine BigFrame.wpQuiet_want (by kernel_rfl) (fun K hK => ?_)
      apply Exists.intro
      refine ⟨fun w' hC => ?_, hK _ ?_⟩
      · unfold Oper.quietAt
        go_simp
        first | with_reducible rfl | done
      clear hK K
      try simp only [Act.put, List.setIfInBounds_toArray, List.set_cons_zero, List.set_cons_succ]
      refine wpQuiet_nil ?_
      intro w6 hb6
      have HB6 := hid (HB3.out.trans (hb6.mono HB3.out.size))
      clear hb6
      go_wp2_with fail
      go_ret
      exact ⟨rfl, HB6.out⟩
  obtain ⟨k1, k2, k3⟩ := h1
  have d1 : decide (-1 ≤ a) = true := decide_eq_true k1
  have d2 : decide (a < (G.prods.length : Int)) = true := decide_eq_true k2
  have d3 : decide (0 ≤ b) = true := decide_eq_true k3
  obtain ⟨rl, hrl⟩ : ∃ rl, (rightX G a).length = rl := ⟨_, rfl⟩
  have HRL := hid hrl
  obtain rfl : decide (b ≤ (rl : Int)) = IV := by
    rw [HTX.out, hrl]
    by_cases hh : b ≤ (rl : Int)
    · rw [decide_eq_true hh]; exact (decide_eq_true ⟨k1, k2, k3, hh⟩).symm
    · rw [decide_eq_false hh]; exact (decide_eq_false (fun h => hh h.2.2.2)).symm
  clear HTX hrl
  obtain ⟨we, ewe⟩ : ∃ we, w3.drew = we := ⟨_, rfl⟩
  have hbe : Below w3.heap.size w3 we := by rw [← ewe]; exact (Below.refl _ _).drew
  have HBE := hid (HB3.out.trans (hbe.mono HB3.out.size))
  have hS : ∀ w', Below w3.heap.size w3 w' → w'.cell? ⟨W1.heap.size, 0, none⟩ = some (.int .i64 a) ∧ w'.cell? ⟨W1.heap.size, 1, none⟩ = some (.int .i64 b) ∧ w'.cell? ⟨w.heap.size, 3, none⟩ = some (.slice pa G.prods.length pc) ∧ w'.cell? ⟨w.heap.size, 0, none⟩ = some tv ∧ w'.cell? ⟨w.heap.size, 1, none⟩ = some ov ∧ w'.cell? ⟨w.heap.size, 2, none⟩ = some sv ∧ w'.cell? ⟨w.heap.size, 4, none⟩ = some (.int .i64 G.start) :=
    fun w' hC => ⟨HF0.out w' hC, HF1.out w' hC, HF2.out w' hC, (HGc.out w' hC).1, (HGc.out w' hC).2.1, (HGc.out w' hC).2.2.1, (HGc.out w' hC).2.2.2⟩
  have HH0 := hS we hbe
  have HS := hid hS
  have KR := hid (RRight_any (HW3.out we hbe) HVV.out a k1 k2)
  have hwe := hbe.size
  have HBe := hid hbe
  clear hS hbe
  generalize hnp : G.prods.length = np at *
  clear hnp
  go_wp2_with fail
  refine region_T 29 (fun w' => w'.cell? ⟨W1.heap.size, 0, none⟩ = some (.int .i64 a) ∧ w'.cell? ⟨W1.heap.size, 1, none⟩ = some (.int .i64 b) ∧ w'.cell? ⟨w.heap.size, 3, none⟩ = some (.slice pa np pc) ∧ w'.cell? ⟨w.heap.size, 0, none⟩ = some tv ∧ w'.cell? ⟨w.heap.size, 1, none⟩ = some ov ∧ w'.cell? ⟨w.heap.size, 2, none⟩ = some sv ∧ w'.cell? ⟨w.heap.size, 4, none⟩ = some (.int .i64 G.start)) (by kernel_rfl) (by rw [ewe]; exact HH0) (fun inv hHeld => ?_)
  rw [ewe]
  clear hHeld ewe
  refine anyT_take (i := 0) (oi := { dst := some 8, op := Go.Op.move (Go.Operand.tmp 5), type := 4, pos := "ref.go:32", after := #[], guard := none }) (v := ?_) rfl (by kernel_rfl) (by kernel_rfl) (by kernel_rfl) (by decide) (by decide) (by kernel_rfl) (by kernel_rfl) (fun _ _ _ h => h) (Or.inl ⟨by rfl, ?_⟩) HH0 inv (fun inv => ?_)
  rotate_left
  · intro w hSw
    try dsimp only at hSw
    go_simp
    try with_reducible rfl
  simp only [Act.put, List.setIfInBounds_toArray, List.set_cons_zero, List.set_cons_succ]
  refine anyT_take (i := 1) (oi := { dst := some 9, op := Go.Op.move (Go.Operand.tmp 8), type := 4, pos := "ref.go:32", after := #[{ on := 0, ground := Go.Ground.data }], guard := none }) (v := ?_) rfl (by kernel_rfl) (by kernel_rfl) (by kernel_rfl) (by decide) (by decide) (by kernel_rfl) (by kernel_rfl) (fun _ _ _ h => h) (Or.inl ⟨by rfl, ?_⟩) HH0 inv (fun inv => ?_)
  rotate_left
  · intro w hSw
    try dsimp only at hSw
    go_simp
    try with_reducible rfl
  simp only [Act.put, List.setIfInBounds_toArray, List.set_cons_zero, List.set_cons_succ]
  refine anyT_take (i := 2) (oi := { dst := some 10, op := Go.Op.fieldAddr 39 (Go.Operand.tmp 3) 0, type := 0, pos := "ref.go:32", after := #[{ on := 1, ground := Go.Ground.guard }], guard := some (1, true) }) (v := ?_) rfl (by kernel_rfl) (by kernel_rfl) (by kernel_rfl) (by decide) (by decide) (by kernel_rfl) (by kernel_rfl) (fun _ _ _ h => h) (Or.inl ⟨by rfl, ?_⟩) HH0 inv (fun inv => ?_)
  rotate_left
  · intro w hSw
    try dsimp only at hSw
    go_simp
    try with_reducible rfl
  simp only [Act.put, List.setIfInBounds_toArray, List.set_cons_zero, List.set_cons_succ]
  refine anyT_take (i := 3) (oi := { dst := some 11, op := Go.Op.load 3 (Go.Operand.tmp 10), type := 3, pos := "ref.go:32", after := #[{ on := 2, ground := Go.Ground.data }, { on := 1, ground := Go.Ground.guard }], guard := some (1, true) }) (v := ?_) rfl (by kernel_rfl) (by kernel_rfl) (by kernel_rfl) (by decide) (by decide) (by kernel_rfl) (by kernel_rfl) (fun _ _ _ h => h) (Or.inl ⟨by rfl, ?_⟩) HH0 inv (fun inv => ?_)
  rotate_left
  · intro w hSw
    try dsimp only at hSw
    go_simp
    try with_reducible rfl
  simp only [Act.put, List.setIfInBounds_toArray, List.set_cons_zero, List.set_cons_succ]
  refine anyT_take (i := 4) (oi := { dst := some 12, op := Go.Op.binOp Go.BinOp.geq 3 (Go.Operand.tmp 11) (Go.Operand.const (Go.Value.int Go.IntKind.i64 (-1))) 3, type := 4, pos := "ref.go:32", after := #[{ on := 3, ground := Go.Ground.data }, { on := 1, ground := Go.Ground.guard }], guard := some (1, true) }) (v := ?_) rfl (by kernel_rfl) (by kernel_rfl) (by kernel_rfl) (by decide) (by decide) (by kernel_rfl) (by kernel_rfl) (fun _ _ _ h => h) (Or.inl ⟨by rfl, ?_⟩) HH0 inv (fun inv => ?_)
  rotate_left
  · intro w hSw
    try dsimp only at hSw
    go_simp
    try with_reducible rfl
  simp only [Act.put, List.setIfInBounds_toArray, List.set_cons_zero, List.set_cons_succ]
  refine anyT_take (i := 5) (oi := { dst := some 13, op := Go.Op.pick (Go.Operand.tmp 9) (Go.Operand.tmp 12) (Go.Operand.const (Go.Value.bool false)), type := 4, pos := "ref.go:32", after := #[{ on := 1, ground := Go.Ground.data }, { on := 4, ground := Go.Ground.data }], guard := none }) (v := ?_) rfl (by kernel_rfl) (by kernel_rfl) (by kernel_rfl) (by decide) (by decide) (by kernel_rfl) (by kernel_rfl) (fun _ _ _ h => h) (Or.inl ⟨by rfl, ?_⟩) HH0 inv (fun inv => ?_)
  rotate_left
  · intro w hSw
    try dsimp only at hSw
    go_simp
    try with_reducible rfl
  simp only [Act.put, List.setIfInBounds_toArray, List.set_cons_zero, List.set_cons_succ]
  refine anyT_take (i := 6) (oi := { dst := some 14, op := Go.Op.move (Go.Operand.tmp 13), type := 4, pos := "ref.go:32", after := #[{ on := 5, ground := Go.Ground.data }, { on := 1, ground := Go.Ground.chain }], guard := none }) (v := ?_) rfl (by kernel_rfl) (by kernel_rfl) (by kernel_rfl) (by decide) (by decide) (by kernel_rfl) (by kernel_rfl) (fun _ _ _ h => h) (Or.inl ⟨by rfl, ?_⟩) HH0 inv (fun inv => ?_)
  rotate_left
  · intro w hSw
    try dsimp only at hSw
    go_simp
    try with_reducible rfl
  simp only [Act.put, List.setIfInBounds_toArray, List.set_cons_zero, List.set_cons_succ]
  refine anyT_take (i := 7) (oi := { dst := some 15, op := Go.Op.fieldAddr 39 (Go.Operand.tmp 3) 0, type := 0, pos := "ref.go:32", after := #[{ on := 6, ground := Go.Ground.guard }], guard := some (6, true) }) (v := ?_) rfl (by kernel_rfl) (by kernel_rfl) (by kernel_rfl) (by decide) (by decide) (by kernel_rfl) (by kernel_rfl) (fun _ _ _ h => h) (Or.inl ⟨by rfl, ?_⟩) HH0 inv (fun inv => ?_)
  rotate_left
  · intro w hSw
    try dsimp only at hSw
    go_simp
    try with_reducible rfl
  simp only [Act.put, List.setIfInBounds_toArray, List.set_cons_zero, List.set_cons_succ]
  refine anyT_take (i := 8) (oi := { dst := some 16, op := Go.Op.load 3 (Go.Operand.tmp 15), type := 3, pos := "ref.go:32", after := #[{ on := 7, ground := Go.Ground.data }, { on := 6, ground := Go.Ground.guard }], guard := some (6, true) }) (v := ?_) rfl (by kernel_rfl) (by kernel_rfl) (by kernel_rfl) (by decide) (by decide) (by kernel_rfl) (by kernel_rfl) (fun _ _ _ h => h) (Or.inl ⟨by rfl, ?_⟩) HH0 inv (fun inv => ?_)
  rotate_left
  · intro w hSw
    try dsimp only at hSw
    go_simp
    try with_reducible rfl
  simp only [Act.put, List.setIfInBounds_toArray, List.set_cons_zero, List.set_cons_succ]
  refine anyT_take (i := 9) (oi := { dst := some 17, op := Go.Op.fieldAddr 27 (Go.Operand.tmp 2) 3, type := 0, pos := "ref.go:32", after := #[{ on := 6, ground := Go.Ground.guard }], guard := some (6, true) }) (v := ?_) rfl (by kernel_rfl) (by kernel_rfl) (by kernel_rfl) (by decide) (by decide) (by kernel_rfl) (by kernel_rfl) (fun _ _ _ h => h) (Or.inl ⟨by rfl, ?_⟩) HH0 inv (fun inv => ?_)
  rotate_left
  · intro w hSw
    try dsimp only at hSw
    go_simp
    try with_reducible rfl
  simp only [Act.put, List.setIfInBounds_toArray, List.set_cons_zero, List.set_cons_succ]
  refine anyT_take (i := 10) (oi := { dst := some 18, op := Go.Op.load 25 (Go.Operand.tmp 17), type := 25, pos := "ref.go:32", after := #[{ on := 9, ground := Go.Ground.data }, { on := 6, ground := Go.Ground.guard }], guard := some (6, true) }) (v := ?_) rfl (by kernel_rfl) (by kernel_rfl) (by kernel_rfl) (by decide) (by decide) (by kernel_rfl) (by kernel_rfl) (fun _ _ _ h => h) (Or.inl ⟨by rfl, ?_⟩) HH0 inv (fun inv => ?_)
  rotate_left
  · intro w hSw
    try dsimp only at hSw
    go_simp
    try with_reducible rfl
  simp only [Act.put, List.setIfInBounds_toArray, List.set_cons_zero, List.set_cons_succ]
  refine anyT_take (i := 11) (oi := { dst := some 19, op := Go.Op.call { callee := Go.Callee.builtin Go.Builtin.len, args := #[Go.Operand.tmp 18], argTypes := #[25] }, type := 3, pos := "ref.go:32", after := #[{ on := 10, ground := Go.Ground.data }, { on := 6, ground := Go.Ground.guard }], guard := some (6, true) }) (v := ?_) rfl (by kernel_rfl) (by kernel_rfl) (by kernel_rfl) (by decide) (by decide) (by kernel_rfl) (by kernel_rfl) (fun _ _ _ h => h) (Or.inl ⟨by rfl, ?_⟩) HH0 inv (fun inv => ?_)
  rotate_left
  · intro w hSw
    try dsimp only at hSw
    go_simp
    try with_reducible rfl
  simp only [Act.put, List.setIfInBounds_toArray, List.set_cons_zero, List.set_cons_succ]
  refine anyT_take (i := 12) (oi := { dst := some 20, op := Go.Op.binOp Go.BinOp.lss 3 (Go.Operand.tmp 16) (Go.Operand.tmp 19) 3, type := 4, pos := "ref.go:32", after := #[{ on := 8, ground := Go.Ground.data }, { on := 11, ground := Go.Ground.data }, { on := 6, ground := Go.Ground.guard }], guard := some (6, true) }) (v := ?_) rfl (by kernel_rfl) (by kernel_rfl) (by kernel_rfl) (by decide) (by decide) (by kernel_rfl) (by kernel_rfl) (fun _ _ _ h => h) (Or.inl ⟨by rfl, ?_⟩) HH0 inv (fun inv => ?_)
  rotate_left
  · intro w hSw
    try dsimp only at hSw
    go_simp
    try with_reducible rfl
  simp only [Act.put, List.setIfInBounds_toArray, List.set_cons_zero, List.set_cons_succ]
  refine anyT_take (i := 13) (oi := { dst := some 21, op := Go.Op.pick (Go.Operand.tmp 14) (Go.Operand.tmp 20) (Go.Operand.const (Go.Value.bool false)), type := 4, pos := "ref.go:32", after := #[{ on := 6, ground := Go.Ground.data }, { on := 12, ground := Go.Ground.data }], guard := none }) (v := ?_) rfl (by kernel_rfl) (by kernel_rfl) (by kernel_rfl) (by decide) (by decide) (by kernel_rfl) (by kernel_rfl) (fun _ _ _ h => h) (Or.inl ⟨by rfl, ?_⟩) HH0 inv (fun inv => ?_)
  rotate_left
  · intro w hSw
    try dsimp only at hSw
    go_simp
    try with_reducible rfl
  simp only [Act.put, List.setIfInBounds_toArray, List.set_cons_zero, List.set_cons_succ]
  refine anyT_take (i := 14) (oi := { dst := some 22, op := Go.Op.move (Go.Operand.tmp 21), type := 4, pos := "ref.go:32", after := #[{ on := 13, ground := Go.Ground.data }, { on := 6, ground := Go.Ground.chain }], guard := none }) (v := ?_) rfl (by kernel_rfl) (by kernel_rfl) (by kernel_rfl) (by decide) (by decide) (by kernel_rfl) (by kernel_rfl) (fun _ _ _ h => h) (Or.inl ⟨by rfl, ?_⟩) HH0 inv (fun inv => ?_)
  rotate_left
  · intro w hSw
    try dsimp only at hSw
    go_simp
    try with_reducible rfl
  simp only [Act.put, List.setIfInBounds_toArray, List.set_cons_zero, List.set_cons_succ]
  refine anyT_take (i := 15) (oi := { dst := some 23, op := Go.Op.fieldAddr 39 (Go.Operand.tmp 3) 1, type := 0, pos := "ref.go:32", after := #[{ on := 14, ground := Go.Ground.guard }], guard := some (14, true) }) (v := ?_) rfl (by kernel_rfl) (by kernel_rfl) (by kernel_rfl) (by decide) (by decide) (by kernel_rfl) (by kernel_rfl) (fun _ _ _ h => h) (Or.inl ⟨by rfl, ?_⟩) HH0 inv (fun inv => ?_)
  rotate_left
  · intro w hSw
    try dsimp only at hSw
    go_simp
    try with_reducible rfl
  simp only [Act.put, List.setIfInBounds_toArray, List.set_cons_zero, List.set_cons_succ]
  refine anyT_take (i := 16) (oi := { dst := some 24, op := Go.Op.load 3 (Go.Operand.tmp 23), type := 3, pos := "ref.go:32", after := #[{ on := 15, ground := Go.Ground.data }, { on := 14, ground := Go.Ground.guard }], guard := some (14, true) }) (v := ?_) rfl (by kernel_rfl) (by kernel_rfl) (by kernel_rfl) (by decide) (by decide) (by kernel_rfl) (by kernel_rfl) (fun _ _ _ h => h) (Or.inl ⟨by rfl, ?_⟩) HH0 inv (fun inv => ?_)
  rotate_left
  · intro w hSw
    try dsimp only at hSw
    go_simp
    try with_reducible rfl
  simp only [Act.put, List.setIfInBounds_toArray, List.set_cons_zero, List.set_cons_succ]
  refine anyT_take (i := 17) (oi := { dst := some 25, op := Go.Op.binOp Go.BinOp.geq 3 (Go.Operand.tmp 24) (Go.Operand.const (Go.Value.int Go.IntKind.i64 0)) 3, type := 4, pos := "ref.go:32", after := #[{ on := 16, ground := Go.Ground.data }, { on := 14, ground := Go.Ground.guard }], guard := some (14, true) }) (v := ?_) rfl (by kernel_rfl) (by kernel_rfl) (by kernel_rfl) (by decide) (by decide) (by kernel_rfl) (by kernel_rfl) (fun _ _ _ h => h) (Or.inl ⟨by rfl, ?_⟩) HH0 inv (fun inv => ?_)
  rotate_left
  · intro w hSw
    try dsimp only at hSw
    go_simp
    try with_reducible rfl
  simp only [Act.put, List.setIfInBounds_toArray, List.set_cons_zero, List.set_cons_succ]
  refine anyT_take (i := 18) (oi := { dst := some 26, op := Go.Op.pick (Go.Operand.tmp 22) (Go.Operand.tmp 25) (Go.Operand.const (Go.Value.bool false)), type := 4, pos := "ref.go:32", after := #[{ on := 14, ground := Go.Ground.data }, { on := 17, ground := Go.Ground.data }], guard := none }) (v := ?_) rfl (by kernel_rfl) (by kernel_rfl) (by kernel_rfl) (by decide) (by decide) (by kernel_rfl) (by kernel_rfl) (fun _ _ _ h => h) (Or.inl ⟨by rfl, ?_⟩) HH0 inv (fun inv => ?_)
  rotate_left
  · intro w hSw
    try dsimp only at hSw
    go_simp
    try with_reducible rfl
  simp only [Act.put, List.setIfInBounds_toArray, List.set_cons_zero, List.set_cons_succ]
  refine anyT_take (i := 19) (oi := { dst := some 27, op := Go.Op.move (Go.Operand.tmp 26), type := 4, pos := "ref.go:32", after := #[{ on := 18, ground := Go.Ground.data }, { on := 14, ground := Go.Ground.chain }], guard := none }) (v := ?_) rfl (by kernel_rfl) (by kernel_rfl) (by kernel_rfl) (by decide) (by decide) (by kernel_rfl) (by kernel_rfl) (fun _ _ _ h => h) (Or.inl ⟨by rfl, ?_⟩) HH0 inv (fun inv => ?_)
  rotate_left
  · intro w hSw
    try dsimp only at hSw
    go_simp
    try with_reducible rfl
  simp only [Act.put, List.setIfInBounds_toArray, List.set_cons_zero, List.set_cons_succ]
  refine anyT_take (i := 20) (oi := { dst := some 28, op := Go.Op.fieldAddr 39 (Go.Operand.tmp 3) 1, type := 0, pos := "ref.go:32", after := #[{ on := 19, ground := Go.Ground.guard }], guard := some (19, true) }) (v := ?_) rfl (by kernel_rfl) (by kernel_rfl) (by kernel_rfl) (by decide) (by decide) (by kernel_rfl) (by kernel_rfl) (fun _ _ _ h => h) (Or.inl ⟨by rfl, ?_⟩) HH0 inv (fun inv => ?_)
  rotate_left
  · intro w hSw
    try dsimp only at hSw
    go_simp
    try with_reducible rfl
  simp only [Act.put, List.setIfInBounds_toArray, List.set_cons_zero, List.set_cons_succ]
  refine anyT_take (i := 21) (oi := { dst := some 29, op := Go.Op.load 3 (Go.Operand.tmp 28), type := 3, pos := "ref.go:32", after := #[{ on := 20, ground := Go.Ground.data }, { on := 19, ground := Go.Ground.guard }], guard := some (19, true) }) (v := ?_) rfl (by kernel_rfl) (by kernel_rfl) (by kernel_rfl) (by decide) (by decide) (by kernel_rfl) (by kernel_rfl) (fun _ _ _ h => h) (Or.inl ⟨by rfl, ?_⟩) HH0 inv (fun inv => ?_)
  rotate_left
  · intro w hSw
    try dsimp only at hSw
    go_simp
    try with_reducible rfl
  simp only [Act.put, List.setIfInBounds_toArray, List.set_cons_zero, List.set_cons_succ]
  refine anyT_take (i := 22) (oi := { dst := some 30, op := Go.Op.load 27 (Go.Operand.tmp 2), type := 27, pos := "ref.go:32", after := #[{ on := 19, ground := Go.Ground.guard }], guard := some (19, true) }) (v := ?_) rfl (by kernel_rfl) (by kernel_rfl) (by kernel_rfl) (by decide) (by decide) (by kernel_rfl) (by kernel_rfl) (fun _ _ _ h => h) (Or.inl ⟨by rfl, ?_⟩) HH0 inv (fun inv => ?_)
  rotate_left
  · intro w hSw
    try dsimp only at hSw
    go_simp
    try with_reducible rfl
  simp only [Act.put, List.setIfInBounds_toArray, List.set_cons_zero, List.set_cons_succ]
  refine anyT_take (i := 23) (oi := { dst := some 31, op := Go.Op.fieldAddr 39 (Go.Operand.tmp 3) 0, type := 0, pos := "ref.go:32", after := #[{ on := 19, ground := Go.Ground.guard }], guard := some (19, true) }) (v := ?_) rfl (by kernel_rfl) (by kernel_rfl) (by kernel_rfl) (by decide) (by decide) (by kernel_rfl) (by kernel_rfl) (fun _ _ _ h => h) (Or.inl ⟨by rfl, ?_⟩) HH0 inv (fun inv => ?_)
  rotate_left
  · intro w hSw
    try dsimp only at hSw
    go_simp
    try with_reducible rfl
  simp only [Act.put, List.setIfInBounds_toArray, List.set_cons_zero, List.set_cons_succ]
  refine anyT_take (i := 24) (oi := { dst := some 32, op := Go.Op.load 3 (Go.Operand.tmp 31), type := 3, pos := "ref.go:32", after := #[{ on := 23, ground := Go.Ground.data }, { on := 19, ground := Go.Ground.guard }], guard := some (19, true) }) (v := ?_) rfl (by kernel_rfl) (by kernel_rfl) (by kernel_rfl) (by decide) (by decide) (by kernel_rfl) (by kernel_rfl) (fun _ _ _ h => h) (Or.inl ⟨by rfl, ?_⟩) HH0 inv (fun inv => ?_)
  rotate_left
  · intro w hSw
    try dsimp only at hSw
    go_simp
    try with_reducible rfl
  simp only [Act.put, List.setIfInBounds_toArray, List.set_cons_zero, List.set_cons_succ]
  refine anyT_next (i := 25) (o := { dst := some 33, op := Go.Op.call { callee := Go.Callee.value (Go.Operand.func 28), args := #[Go.Operand.tmp 30, Go.Operand.tmp 32], argTypes := #[27, 3] }, type := 62, pos := "ref.go:32", after := #[{ on := 22, ground := Go.Ground.data }, { on := 24, ground := Go.Ground.data }, { on := 19, ground := Go.Ground.chain }, { on := 19, ground := Go.Ground.guard }], guard := some (19, true) }) (by kernel_rfl) rfl (by decide) inv (fun inv K' hK => ?_)
  go_simp
  refine KR.out.mono ?_
  rintro e w6 ⟨rv, rfl, hrv, hb6⟩
  obtain ⟨ro, rc, rfl, hrn⟩ := right_len hrv
  rw [HRL.out] at hrn ⊢
  have HB6 := hid (HBe.out.trans (hb6.mono hwe))
  have HH1 := HS.out w6 HB6.out
  have HB7 := hid (HBE.out.trans (hb6.mono HBE.out.size))
  refine hK.out _ _ HH1 ?_
  clear hK K' HH0 hb6 hrv KR
  try simp only [Act.put, List.setIfInBounds_toArray, List.set_cons_zero, List.set_cons_succ]
  refine anyT_take (i := 26) (oi := { dst := some 34, op := Go.Op.call { callee := Go.Callee.builtin Go.Builtin.len, args := #[Go.Operand.tmp 33], argTypes := #[62] }, type := 3, pos := "ref.go:32", after := #[{ on := 25, ground := Go.Ground.data }, { on := 19, ground := Go.Ground.guard }], guard := some (19, true) }) (v := ?_) rfl (by kernel_rfl) (by kernel_rfl) (by kernel_rfl) (by decide) (by decide) (by kernel_rfl) (by kernel_rfl) (fun _ _ _ h => h) (Or.inl ⟨by rfl, ?_⟩) HH1 inv (fun inv => ?_)
  rotate_left
  · intro w hSw
    try dsimp only at hSw
    go_simp
    try with_reducible rfl
  simp only [Act.put, List.setIfInBounds_toArray, List.set_cons_zero, List.set_cons_succ]
  refine anyT_take (i := 27) (oi := { dst := some 35, op := Go.Op.binOp Go.BinOp.leq 3 (Go.Operand.tmp 29) (Go.Operand.tmp 34) 3, type := 4, pos := "ref.go:32", after := #[{ on := 21, ground := Go.Ground.data }, { on := 26, ground := Go.Ground.data }, { on := 19, ground := Go.Ground.guard }], guard := some (19, true) }) (v := ?_) rfl (by kernel_rfl) (by kernel_rfl) (by kernel_rfl) (by decide) (by decide) (by kernel_rfl) (by kernel_rfl) (fun _ _ _ h => h) (Or.inl ⟨by rfl, ?_⟩) HH1 inv (fun inv => ?_)
  rotate_left
  · intro w hSw
    try dsimp only at hSw
    go_simp
    try with_reducible rfl
  simp only [Act.put, List.setIfInBounds_toArray, List.set_cons_zero, List.set_cons_succ]
  refine anyT_take (i := 28) (oi := { dst := some 36, op := Go.Op.pick (Go.Operand.tmp 27) (Go.Operand.tmp 35) (Go.Operand.const (Go.Value.bool false)), type := 4, pos := "ref.go:32", after := #[{ on := 19, ground := Go.Ground.data }, { on := 27, ground := Go.Ground.data }], guard := none }) (v := ?_) rfl (by kernel_rfl) (by kernel_rfl) (by kernel_rfl) (by decide) (by decide) (by kernel_rfl) (by kernel_rfl) (fun _ _ _ h => h) (Or.inl ⟨by rfl, ?_⟩) HH1 inv (fun inv => ?_)
  rotate_left
  · intro w hSw
    try dsimp only at hSw
    go_simp
    try with_reducible rfl
  simp only [Act.put, List.setIfInBounds_toArray, List.set_cons_zero, List.set_cons_succ]
  refine anyT_one (i := 29) (o := { dst := some 4, op := Go.Op.assign (Go.Operand.tmp 36), type := 4, pos := "ref.go:32", after := #[{ on := 28, ground := Go.Ground.data }, { on := 25, ground := Go.Ground.chain }, { on := 0, ground := Go.Ground.phase }, { on := 1, ground := Go.Ground.phase }, { on := 2, ground := Go.Ground.phase }, { on := 3, ground := Go.Ground.phase }, { on := 4, ground := Go.Ground.phase }, { on := 5, ground := Go.Ground.phase }, { on := 6, ground := Go.Ground.phase }, { on := 7, ground := Go.Ground.phase }, { on := 8, ground := Go.Ground.phase }, { on := 9, ground := Go.Ground.phase }, { on := 10, ground := Go.Ground.phase }, { on := 11, ground := Go.Ground.phase }, { on := 12, ground := Go.Ground.phase }, { on := 13, ground := Go.Ground.phase }, { on := 14, ground := Go.Ground.phase }, { on := 15, ground := Go.Ground.phase }, { on := 16, ground := Go.Ground.phase }, { on := 17, ground := Go.Ground.phase }, { on := 18, ground := Go.Ground.phase }, { on := 19, ground := Go.Ground.phase }, { on := 20, ground := Go.Ground.phase }, { on := 21, ground := Go.Ground.phase }, { on := 22, ground := Go.Ground.phase }, { on := 23, ground := Go.Ground.phase }, { on := 24, ground := Go.Ground.phase }, { on := 25, ground := Go.Ground.phase }, { on := 26, ground := Go.Ground.phase }, { on := 27, ground := Go.Ground.phase }, { on := 28, ground := Go.Ground.phase }], guard := none }) (by kernel_rfl) rfl (fun K' hK => ?_)
  go_simp
  refine hK.out _ _ (fun h => absurd h (by decide)) ?_
  clear hK K'
  try simp only [Act.put, List.setIfInBounds_toArray, List.set_cons_zero, List.set_cons_succ]
  refine anyT_done (by kernel_rfl) ?_ _
  go_wp2_with fail
  go_ret
  exact ⟨rfl, HB7.out⟩
end Go.Proofs.YtjpbhbfklkipkaaDoor
