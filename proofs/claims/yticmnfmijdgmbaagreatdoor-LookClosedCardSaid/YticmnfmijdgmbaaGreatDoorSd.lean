/- Which items there are, and what is behind a dot. -/
import Derived.Test.YticmnfmijdgmbaaGreatDoorSb
namespace Go.Proofs.YticmnfmijdgmbaaGreatDoor
open Go Go.RowKit Go.Lib
open X14 (It rightX thereX behX)
set_option linter.unusedVariables false
set_option linter.unusedSimpArgs false
theorem right_len {G : GD} {w : World} {rv : Value} {p : Int} (h : IntsAt w rv (rightX G p)) : ∃ o c, rv = .slice o (rightX G p).length c ∧ (rightX G p).length ≤ 9223372036854775807 := by
 obtain ⟨⟨o, c, e, hl, _⟩, _⟩ := h
 exact ⟨o, c, e, hl⟩
set_option maxRecDepth 100000 in
set_option maxHeartbeats 8000000 in
theorem there_any {G : GD} {gv : Value} {w : World} (h : Gram w gv G) (hv : validB G = true) (x : It) :
  Calls Tryz.prog 64 #[gv, itV x] w fun e w' => e = .returned (.bool (thereX G x)) ∧ Below w.heap.size w w' := by
 have HGr := hid h
 have HV := hid hv
 obtain ⟨tv, ov, sv, pv, tf, rv, h⟩ := h
 obtain ⟨W1, B, hW1, hB, c0, c1, c2, c3, c4, hG, hb, hsz⟩ := gr_box h
 have hgv := h.eq
 subst hgv hB
 have e1 := hW1.symm
 obtain ⟨W2, e2⟩ : ∃ W2, W1.alloc (.cells #[.int .i64 x.1, .int .i64 x.2] 60) = W2 := ⟨_, rfl⟩
 have hb2 : Below W1.heap.size W1 W2 := by rw [← e2]; exact (Below.refl _ _).alloc (Nat.le_refl _) _
 have n2 : W2.heap[W1.heap.size]? = some (.cells #[.int .i64 x.1, .int .i64 x.2] 60 (0, 0)) := by rw [← e2]; exact heap_alloc_new _ _
 obtain ⟨pa, pc, rfl, hpn, hpc⟩ := hG.prods
 have lW : W1.heap.size < W2.heap.size := (Array.getElem?_eq_some_iff.1 n2).1
 have lB : w.heap.size < W1.heap.size := World.block_lt_of_cell? W1 _ c3
 have HB2 := hid (hb.trans (hb2.mono hsz))
 have f0 : ∀ w', Below W2.heap.size W2 w' → w'.cell? ⟨W1.heap.size, 0, none⟩ = some (.int .i64 x.1) := fun w' hC => cell_below hC (Lib.cell_of_heap n2 0)
 have f1 : ∀ w', Below W2.heap.size W2 w' → w'.cell? ⟨W1.heap.size, 1, none⟩ = some (.int .i64 x.2) := fun w' hC => cell_below hC (Lib.cell_of_heap n2 1)
 have f2 : ∀ w', Below W2.heap.size W2 w' → w'.cell? ⟨w.heap.size, 3, none⟩ = some (.slice pa G.prods.length pc) := fun w' hC => cell_below hC (cell_below hb2 c3)
 have g0 : ∀ w', Below W2.heap.size W2 w' → w'.cell? ⟨w.heap.size, 0, none⟩ = some tv := fun w' hC => cell_below hC (cell_below hb2 c0)
 have g1 : ∀ w', Below W2.heap.size W2 w' → w'.cell? ⟨w.heap.size, 1, none⟩ = some ov := fun w' hC => cell_below hC (cell_below hb2 c1)
 have g2 : ∀ w', Below W2.heap.size W2 w' → w'.cell? ⟨w.heap.size, 2, none⟩ = some sv := fun w' hC => cell_below hC (cell_below hb2 c2)
 have g4 : ∀ w', Below W2.heap.size W2 w' → w'.cell? ⟨w.heap.size, 4, none⟩ = some (.int .i64 G.start) := fun w' hC => cell_below hC (cell_below hb2 c4)
 have HF0 := hid f0
 have HF1 := hid f1
 have HF2 := hid f2
 have HGc := hid (And.intro g0 (And.intro g1 (And.intro g2 g4)))
 have HTX := hid (show thereX G x = decide (-1 ≤ x.1 ∧ x.1 < (G.prods.length : Int) ∧ 0 ≤ x.2 ∧ x.2 ≤ ((rightX G x.1).length : Int)) from rfl)
 have hno : ¬ (-1 ≤ x.1 ∧ x.1 < (G.prods.length : Int) ∧ 0 ≤ x.2) → thereX G x = false := fun hn => by rw [HTX.out]; exact decide_eq_false (fun h => hn ⟨h.1, h.2.1, h.2.2.1⟩)
 have HNO := hid hno
 have HWG := hid (show ∀ w', Below W2.heap.size W2 w' → Gram w' (.agg #[tv, ov, sv, .slice pa G.prods.length pc, .int .i64 G.start]) G from fun w' hC => HGr.out.below (HB2.out.trans (hC.mono HB2.out.size)))
 unfold itV
 clear h hG hpc hW1 hb hb2 n2 c0 c1 c2 c3 c4 f0 f1 f2 g0 g1 g2 g4 hno HTX
 obtain ⟨a, b⟩ := x
 dsimp only at *
 by_cases h1 : -1 ≤ a ∧ a < (G.prods.length : Int) ∧ 0 ≤ b
 case neg =>
  rw [HNO.out h1]
  generalize G.prods.length = np at *
  have hx : (¬ -1 ≤ a) ∨ (-1 ≤ a ∧ ¬ a < (np : Int)) ∨ (-1 ≤ a ∧ a < (np : Int) ∧ ¬ 0 ≤ b) := by omega
  rcases hx with k1 | ⟨k1, k2⟩ | ⟨k1, k2, k3⟩
  ·have d1 : decide (-1 ≤ a) = false := decide_eq_false k1
   clear HNO h1
   go_enter Tryz.func64, Tryz.ntmps64
   go_wp2_with fail
   refine wp_region_below (by kernel_rfl) (by kernel_rfl) ?_
   repeat (first
             | (refine BigFrame.wpQuiet_skip (by rfl) ?_; try simp only [Act.put, List.setIfInBounds_toArray, List.set_cons_zero, List.set_cons_succ])
             | (refine BigFrame.wpQuiet_want (by rfl) (fun K hK => ?_)
                apply Exists.intro
                refine ⟨fun w' hC => ?_, hK _ ?_⟩
                · first
                   | (have f0' := HF0.out w' hC
                      have f1' := HF1.out w' hC
                      have f2' := HF2.out w' hC
                      unfold Oper.quietAt
                      go_simp
                      first
                        | with_reducible rfl
                        | done)
                clear hK K
                try simp only [Act.put, List.setIfInBounds_toArray, List.set_cons_zero, List.set_cons_succ]))
   refine wpQuiet_nil ?_
   intro w6 hb6
   have HB6 := hid (HB2.out.trans (hb6.mono HB2.out.size))
   clear hb6
   go_wp2_with fail
   go_ret
   exact ⟨rfl, HB6.out⟩
  ·have d1 : decide (-1 ≤ a) = true := decide_eq_true k1
   have d2 : decide (a < (np : Int)) = false := decide_eq_false k2
   clear HNO h1
   go_enter Tryz.func64, Tryz.ntmps64
   go_wp2_with fail
   refine wp_region_below (by kernel_rfl) (by kernel_rfl) ?_
   repeat (first
             | (refine BigFrame.wpQuiet_skip (by rfl) ?_; try simp only [Act.put, List.setIfInBounds_toArray, List.set_cons_zero, List.set_cons_succ])
             | (refine BigFrame.wpQuiet_want (by rfl) (fun K hK => ?_)
                apply Exists.intro
                refine ⟨fun w' hC => ?_, hK _ ?_⟩
                · first
                   | (have f0' := HF0.out w' hC
                      have f1' := HF1.out w' hC
                      have f2' := HF2.out w' hC
                      unfold Oper.quietAt
                      go_simp
                      first
                        | with_reducible rfl
                        | done)
                clear hK K
                try simp only [Act.put, List.setIfInBounds_toArray, List.set_cons_zero, List.set_cons_succ]))
   refine wpQuiet_nil ?_
   intro w6 hb6
   have HB6 := hid (HB2.out.trans (hb6.mono HB2.out.size))
   clear hb6
   go_wp2_with fail
   go_ret
   exact ⟨rfl, HB6.out⟩
  ·have d1 : decide (-1 ≤ a) = true := decide_eq_true k1
   have d2 : decide (a < (np : Int)) = true := decide_eq_true k2
   have d3 : decide (0 ≤ b) = false := decide_eq_false k3
   clear HNO h1
   go_enter Tryz.func64, Tryz.ntmps64
   go_wp2_with fail
   refine wp_region_below (by kernel_rfl) (by kernel_rfl) ?_
   repeat (first
             | (refine BigFrame.wpQuiet_skip (by rfl) ?_; try simp only [Act.put, List.setIfInBounds_toArray, List.set_cons_zero, List.set_cons_succ])
             | (refine BigFrame.wpQuiet_want (by rfl) (fun K hK => ?_)
                apply Exists.intro
                refine ⟨fun w' hC => ?_, hK _ ?_⟩
                · first
                   | (have f0' := HF0.out w' hC
                      have f1' := HF1.out w' hC
                      have f2' := HF2.out w' hC
                      unfold Oper.quietAt
                      go_simp
                      first
                        | with_reducible rfl
                        | done)
                clear hK K
                try simp only [Act.put, List.setIfInBounds_toArray, List.set_cons_zero, List.set_cons_succ]))
   refine wpQuiet_nil ?_
   intro w6 hb6
   have HB6 := hid (HB2.out.trans (hb6.mono HB2.out.size))
   clear hb6
   go_wp2_with fail
   go_ret
   exact ⟨rfl, HB6.out⟩
 obtain ⟨k1, k2, k3⟩ := h1
 have d1 : decide (-1 ≤ a) = true := decide_eq_true k1
 have d2 : decide (a < (G.prods.length : Int)) = true := decide_eq_true k2
 have d3 : decide (0 ≤ b) = true := decide_eq_true k3
 have HT := hid (show thereX G (a, b) = decide (b ≤ ((rightX G a).length : Int)) from by
  unfold thereX
  by_cases hh : b ≤ ((rightX G a).length : Int)
  ·rw [decide_eq_true hh]; exact decide_eq_true ⟨k1, k2, k3, hh⟩
  ·rw [decide_eq_false hh]; exact decide_eq_false (fun h => hh h.2.2.2))
 rw [HT.out]
 obtain ⟨rl, hrl⟩ : ∃ rl, (rightX G a).length = rl := ⟨_, rfl⟩
 have HRL := hid hrl
 rw [hrl]
 clear hrl
 obtain ⟨we, ewe⟩ : ∃ we, W2.drew = we := ⟨_, rfl⟩
 have hbe : Below W2.heap.size W2 we := by rw [← ewe]; exact (Below.refl _ _).drew
 have HBE := hid (HB2.out.trans (hbe.mono HB2.out.size))
 have hS : ∀ w', Below W2.heap.size W2 w' → w'.cell? ⟨W1.heap.size, 0, none⟩ = some (.int .i64 a) ∧ w'.cell? ⟨W1.heap.size, 1, none⟩ = some (.int .i64 b) ∧ w'.cell? ⟨w.heap.size, 3, none⟩ = some (.slice pa G.prods.length pc) ∧ w'.cell? ⟨w.heap.size, 0, none⟩ = some tv ∧ w'.cell? ⟨w.heap.size, 1, none⟩ = some ov ∧ w'.cell? ⟨w.heap.size, 2, none⟩ = some sv ∧ w'.cell? ⟨w.heap.size, 4, none⟩ = some (.int .i64 G.start) :=
  fun w' hC => ⟨HF0.out w' hC, HF1.out w' hC, HF2.out w' hC, HGc.out.1 w' hC, HGc.out.2.1 w' hC, HGc.out.2.2.1 w' hC, HGc.out.2.2.2 w' hC⟩
 have HH0 := hS we hbe
 have HS := hid hS
 have KR := hid (right_any (HWG.out we hbe) HV.out (a, b) k1 k2)
 have hwe := hbe.size
 have HBe := hid hbe
 unfold itV at KR
 dsimp only at KR
 clear hS hbe HT HNO
 generalize hnp : G.prods.length = np at *
 clear hnp
 go_enter Tryz.func64, Tryz.ntmps64
 go_wp2_with fail
 refine region_T 25 (fun w' => w'.cell? ⟨W1.heap.size, 0, none⟩ = some (.int .i64 a) ∧ w'.cell? ⟨W1.heap.size, 1, none⟩ = some (.int .i64 b) ∧ w'.cell? ⟨w.heap.size, 3, none⟩ = some (.slice pa np pc) ∧ w'.cell? ⟨w.heap.size, 0, none⟩ = some tv ∧ w'.cell? ⟨w.heap.size, 1, none⟩ = some ov ∧ w'.cell? ⟨w.heap.size, 2, none⟩ = some sv ∧ w'.cell? ⟨w.heap.size, 4, none⟩ = some (.int .i64 G.start)) (by kernel_rfl) (by rw [ewe]; exact HH0) (fun inv hHeld => ?_)
 rw [ewe]
 clear hHeld ewe
 refine anyT_take (i := 0) (oi := { dst := some 5, op := Go.Op.fieldAddr 60 (Go.Operand.tmp 3) 0, type := 0, pos := "states.go:87", after := #[], guard := none }) (v := ?_) rfl (by kernel_rfl) (by kernel_rfl) (by kernel_rfl) (by decide) (by decide) (by kernel_rfl) (by kernel_rfl) (fun _ _ _ h => h) (Or.inl ⟨by rfl, ?_⟩) HH0 inv (fun inv => ?_)
 rotate_left
 ·intro w hSw
  try dsimp only at hSw
  go_simp
  try with_reducible rfl
 simp only [Act.put, List.setIfInBounds_toArray, List.set_cons_zero, List.set_cons_succ]
 refine anyT_take (i := 1) (oi := { dst := some 6, op := Go.Op.load 3 (Go.Operand.tmp 5), type := 3, pos := "states.go:87", after := #[{ on := 0, ground := Go.Ground.data }], guard := none }) (v := ?_) rfl (by kernel_rfl) (by kernel_rfl) (by kernel_rfl) (by decide) (by decide) (by kernel_rfl) (by kernel_rfl) (fun _ _ _ h => h) (Or.inl ⟨by rfl, ?_⟩) HH0 inv (fun inv => ?_)
 rotate_left
 ·intro w hSw
  try dsimp only at hSw
  go_simp
  try with_reducible rfl
 simp only [Act.put, List.setIfInBounds_toArray, List.set_cons_zero, List.set_cons_succ]
 refine anyT_take (i := 2) (oi := { dst := some 7, op := Go.Op.binOp Go.BinOp.geq 3 (Go.Operand.tmp 6) (Go.Operand.const (Go.Value.int Go.IntKind.i64 (-1))) 3, type := 4, pos := "states.go:87", after := #[{ on := 1, ground := Go.Ground.data }], guard := none }) (v := ?_) rfl (by kernel_rfl) (by kernel_rfl) (by kernel_rfl) (by decide) (by decide) (by kernel_rfl) (by kernel_rfl) (fun _ _ _ h => h) (Or.inl ⟨by rfl, ?_⟩) HH0 inv (fun inv => ?_)
 rotate_left
 ·intro w hSw
  try dsimp only at hSw
  go_simp
  try with_reducible rfl
 simp only [Act.put, List.setIfInBounds_toArray, List.set_cons_zero, List.set_cons_succ]
 refine anyT_take (i := 3) (oi := { dst := some 8, op := Go.Op.move (Go.Operand.tmp 7), type := 4, pos := "states.go:87", after := #[{ on := 2, ground := Go.Ground.data }], guard := none }) (v := ?_) rfl (by kernel_rfl) (by kernel_rfl) (by kernel_rfl) (by decide) (by decide) (by kernel_rfl) (by kernel_rfl) (fun _ _ _ h => h) (Or.inl ⟨by rfl, ?_⟩) HH0 inv (fun inv => ?_)
 rotate_left
 ·intro w hSw
  try dsimp only at hSw
  go_simp
  try with_reducible rfl
 simp only [Act.put, List.setIfInBounds_toArray, List.set_cons_zero, List.set_cons_succ]
 refine anyT_take (i := 4) (oi := { dst := some 9, op := Go.Op.fieldAddr 60 (Go.Operand.tmp 3) 0, type := 0, pos := "states.go:87", after := #[{ on := 3, ground := Go.Ground.guard }], guard := some (3, true) }) (v := ?_) rfl (by kernel_rfl) (by kernel_rfl) (by kernel_rfl) (by decide) (by decide) (by kernel_rfl) (by kernel_rfl) (fun _ _ _ h => h) (Or.inl ⟨by rfl, ?_⟩) HH0 inv (fun inv => ?_)
 rotate_left
 ·intro w hSw
  try dsimp only at hSw
  go_simp
  try with_reducible rfl
 simp only [Act.put, List.setIfInBounds_toArray, List.set_cons_zero, List.set_cons_succ]
 refine anyT_take (i := 5) (oi := { dst := some 10, op := Go.Op.load 3 (Go.Operand.tmp 9), type := 3, pos := "states.go:87", after := #[{ on := 4, ground := Go.Ground.data }, { on := 3, ground := Go.Ground.guard }], guard := some (3, true) }) (v := ?_) rfl (by kernel_rfl) (by kernel_rfl) (by kernel_rfl) (by decide) (by decide) (by kernel_rfl) (by kernel_rfl) (fun _ _ _ h => h) (Or.inl ⟨by rfl, ?_⟩) HH0 inv (fun inv => ?_)
 rotate_left
 ·intro w hSw
  try dsimp only at hSw
  go_simp
  try with_reducible rfl
 simp only [Act.put, List.setIfInBounds_toArray, List.set_cons_zero, List.set_cons_succ]
 refine anyT_take (i := 6) (oi := { dst := some 11, op := Go.Op.fieldAddr 27 (Go.Operand.tmp 2) 3, type := 0, pos := "states.go:87", after := #[{ on := 3, ground := Go.Ground.guard }], guard := some (3, true) }) (v := ?_) rfl (by kernel_rfl) (by kernel_rfl) (by kernel_rfl) (by decide) (by decide) (by kernel_rfl) (by kernel_rfl) (fun _ _ _ h => h) (Or.inl ⟨by rfl, ?_⟩) HH0 inv (fun inv => ?_)
 rotate_left
 ·intro w hSw
  try dsimp only at hSw
  go_simp
  try with_reducible rfl
 simp only [Act.put, List.setIfInBounds_toArray, List.set_cons_zero, List.set_cons_succ]
 refine anyT_take (i := 7) (oi := { dst := some 12, op := Go.Op.load 25 (Go.Operand.tmp 11), type := 25, pos := "states.go:87", after := #[{ on := 6, ground := Go.Ground.data }, { on := 3, ground := Go.Ground.guard }], guard := some (3, true) }) (v := ?_) rfl (by kernel_rfl) (by kernel_rfl) (by kernel_rfl) (by decide) (by decide) (by kernel_rfl) (by kernel_rfl) (fun _ _ _ h => h) (Or.inl ⟨by rfl, ?_⟩) HH0 inv (fun inv => ?_)
 rotate_left
 ·intro w hSw
  try dsimp only at hSw
  go_simp
  try with_reducible rfl
 simp only [Act.put, List.setIfInBounds_toArray, List.set_cons_zero, List.set_cons_succ]
 refine anyT_take (i := 8) (oi := { dst := some 13, op := Go.Op.call { callee := Go.Callee.builtin Go.Builtin.len, args := #[Go.Operand.tmp 12], argTypes := #[25] }, type := 3, pos := "states.go:87", after := #[{ on := 7, ground := Go.Ground.data }, { on := 3, ground := Go.Ground.guard }], guard := some (3, true) }) (v := ?_) rfl (by kernel_rfl) (by kernel_rfl) (by kernel_rfl) (by decide) (by decide) (by kernel_rfl) (by kernel_rfl) (fun _ _ _ h => h) (Or.inl ⟨by rfl, ?_⟩) HH0 inv (fun inv => ?_)
 rotate_left
 ·intro w hSw
  try dsimp only at hSw
  go_simp
  try with_reducible rfl
 simp only [Act.put, List.setIfInBounds_toArray, List.set_cons_zero, List.set_cons_succ]
 refine anyT_take (i := 9) (oi := { dst := some 14, op := Go.Op.binOp Go.BinOp.lss 3 (Go.Operand.tmp 10) (Go.Operand.tmp 13) 3, type := 4, pos := "states.go:87", after := #[{ on := 5, ground := Go.Ground.data }, { on := 8, ground := Go.Ground.data }, { on := 3, ground := Go.Ground.guard }], guard := some (3, true) }) (v := ?_) rfl (by kernel_rfl) (by kernel_rfl) (by kernel_rfl) (by decide) (by decide) (by kernel_rfl) (by kernel_rfl) (fun _ _ _ h => h) (Or.inl ⟨by rfl, ?_⟩) HH0 inv (fun inv => ?_)
 rotate_left
 ·intro w hSw
  try dsimp only at hSw
  go_simp
  try with_reducible rfl
 simp only [Act.put, List.setIfInBounds_toArray, List.set_cons_zero, List.set_cons_succ]
 refine anyT_take (i := 10) (oi := { dst := some 15, op := Go.Op.pick (Go.Operand.tmp 8) (Go.Operand.tmp 14) (Go.Operand.const (Go.Value.bool false)), type := 4, pos := "states.go:87", after := #[{ on := 3, ground := Go.Ground.data }, { on := 9, ground := Go.Ground.data }], guard := none }) (v := ?_) rfl (by kernel_rfl) (by kernel_rfl) (by kernel_rfl) (by decide) (by decide) (by kernel_rfl) (by kernel_rfl) (fun _ _ _ h => h) (Or.inl ⟨by rfl, ?_⟩) HH0 inv (fun inv => ?_)
 rotate_left
 ·intro w hSw
  try dsimp only at hSw
  go_simp
  try with_reducible rfl
 simp only [Act.put, List.setIfInBounds_toArray, List.set_cons_zero, List.set_cons_succ]
 refine anyT_take (i := 11) (oi := { dst := some 16, op := Go.Op.move (Go.Operand.tmp 15), type := 4, pos := "states.go:87", after := #[{ on := 10, ground := Go.Ground.data }, { on := 3, ground := Go.Ground.chain }], guard := none }) (v := ?_) rfl (by kernel_rfl) (by kernel_rfl) (by kernel_rfl) (by decide) (by decide) (by kernel_rfl) (by kernel_rfl) (fun _ _ _ h => h) (Or.inl ⟨by rfl, ?_⟩) HH0 inv (fun inv => ?_)
 rotate_left
 ·intro w hSw
  try dsimp only at hSw
  go_simp
  try with_reducible rfl
 simp only [Act.put, List.setIfInBounds_toArray, List.set_cons_zero, List.set_cons_succ]
 refine anyT_take (i := 12) (oi := { dst := some 17, op := Go.Op.fieldAddr 60 (Go.Operand.tmp 3) 1, type := 0, pos := "states.go:87", after := #[{ on := 11, ground := Go.Ground.guard }], guard := some (11, true) }) (v := ?_) rfl (by kernel_rfl) (by kernel_rfl) (by kernel_rfl) (by decide) (by decide) (by kernel_rfl) (by kernel_rfl) (fun _ _ _ h => h) (Or.inl ⟨by rfl, ?_⟩) HH0 inv (fun inv => ?_)
 rotate_left
 ·intro w hSw
  try dsimp only at hSw
  go_simp
  try with_reducible rfl
 simp only [Act.put, List.setIfInBounds_toArray, List.set_cons_zero, List.set_cons_succ]
 refine anyT_take (i := 13) (oi := { dst := some 18, op := Go.Op.load 3 (Go.Operand.tmp 17), type := 3, pos := "states.go:87", after := #[{ on := 12, ground := Go.Ground.data }, { on := 11, ground := Go.Ground.guard }], guard := some (11, true) }) (v := ?_) rfl (by kernel_rfl) (by kernel_rfl) (by kernel_rfl) (by decide) (by decide) (by kernel_rfl) (by kernel_rfl) (fun _ _ _ h => h) (Or.inl ⟨by rfl, ?_⟩) HH0 inv (fun inv => ?_)
 rotate_left
 ·intro w hSw
  try dsimp only at hSw
  go_simp
  try with_reducible rfl
 simp only [Act.put, List.setIfInBounds_toArray, List.set_cons_zero, List.set_cons_succ]
 refine anyT_take (i := 14) (oi := { dst := some 19, op := Go.Op.binOp Go.BinOp.geq 3 (Go.Operand.tmp 18) (Go.Operand.const (Go.Value.int Go.IntKind.i64 0)) 3, type := 4, pos := "states.go:87", after := #[{ on := 13, ground := Go.Ground.data }, { on := 11, ground := Go.Ground.guard }], guard := some (11, true) }) (v := ?_) rfl (by kernel_rfl) (by kernel_rfl) (by kernel_rfl) (by decide) (by decide) (by kernel_rfl) (by kernel_rfl) (fun _ _ _ h => h) (Or.inl ⟨by rfl, ?_⟩) HH0 inv (fun inv => ?_)
 rotate_left
 ·intro w hSw
  try dsimp only at hSw
  go_simp
  try with_reducible rfl
 simp only [Act.put, List.setIfInBounds_toArray, List.set_cons_zero, List.set_cons_succ]
 refine anyT_take (i := 15) (oi := { dst := some 20, op := Go.Op.pick (Go.Operand.tmp 16) (Go.Operand.tmp 19) (Go.Operand.const (Go.Value.bool false)), type := 4, pos := "states.go:87", after := #[{ on := 11, ground := Go.Ground.data }, { on := 14, ground := Go.Ground.data }], guard := none }) (v := ?_) rfl (by kernel_rfl) (by kernel_rfl) (by kernel_rfl) (by decide) (by decide) (by kernel_rfl) (by kernel_rfl) (fun _ _ _ h => h) (Or.inl ⟨by rfl, ?_⟩) HH0 inv (fun inv => ?_)
 rotate_left
 ·intro w hSw
  try dsimp only at hSw
  go_simp
  try with_reducible rfl
 simp only [Act.put, List.setIfInBounds_toArray, List.set_cons_zero, List.set_cons_succ]
 refine anyT_take (i := 16) (oi := { dst := some 21, op := Go.Op.move (Go.Operand.tmp 20), type := 4, pos := "states.go:87", after := #[{ on := 15, ground := Go.Ground.data }, { on := 11, ground := Go.Ground.chain }], guard := none }) (v := ?_) rfl (by kernel_rfl) (by kernel_rfl) (by kernel_rfl) (by decide) (by decide) (by kernel_rfl) (by kernel_rfl) (fun _ _ _ h => h) (Or.inl ⟨by rfl, ?_⟩) HH0 inv (fun inv => ?_)
 rotate_left
 ·intro w hSw
  try dsimp only at hSw
  go_simp
  try with_reducible rfl
 simp only [Act.put, List.setIfInBounds_toArray, List.set_cons_zero, List.set_cons_succ]
 refine anyT_take (i := 17) (oi := { dst := some 22, op := Go.Op.fieldAddr 60 (Go.Operand.tmp 3) 1, type := 0, pos := "states.go:87", after := #[{ on := 16, ground := Go.Ground.guard }], guard := some (16, true) }) (v := ?_) rfl (by kernel_rfl) (by kernel_rfl) (by kernel_rfl) (by decide) (by decide) (by kernel_rfl) (by kernel_rfl) (fun _ _ _ h => h) (Or.inl ⟨by rfl, ?_⟩) HH0 inv (fun inv => ?_)
 rotate_left
 ·intro w hSw
  try dsimp only at hSw
  go_simp
  try with_reducible rfl
 simp only [Act.put, List.setIfInBounds_toArray, List.set_cons_zero, List.set_cons_succ]
 refine anyT_take (i := 18) (oi := { dst := some 23, op := Go.Op.load 3 (Go.Operand.tmp 22), type := 3, pos := "states.go:87", after := #[{ on := 17, ground := Go.Ground.data }, { on := 16, ground := Go.Ground.guard }], guard := some (16, true) }) (v := ?_) rfl (by kernel_rfl) (by kernel_rfl) (by kernel_rfl) (by decide) (by decide) (by kernel_rfl) (by kernel_rfl) (fun _ _ _ h => h) (Or.inl ⟨by rfl, ?_⟩) HH0 inv (fun inv => ?_)
 rotate_left
 ·intro w hSw
  try dsimp only at hSw
  go_simp
  try with_reducible rfl
 simp only [Act.put, List.setIfInBounds_toArray, List.set_cons_zero, List.set_cons_succ]
 refine anyT_take (i := 19) (oi := { dst := some 24, op := Go.Op.load 27 (Go.Operand.tmp 2), type := 27, pos := "states.go:87", after := #[{ on := 16, ground := Go.Ground.guard }], guard := some (16, true) }) (v := ?_) rfl (by kernel_rfl) (by kernel_rfl) (by kernel_rfl) (by decide) (by decide) (by kernel_rfl) (by kernel_rfl) (fun _ _ _ h => h) (Or.inl ⟨by rfl, ?_⟩) HH0 inv (fun inv => ?_)
 rotate_left
 ·intro w hSw
  try dsimp only at hSw
  go_simp
  try with_reducible rfl
 simp only [Act.put, List.setIfInBounds_toArray, List.set_cons_zero, List.set_cons_succ]
 refine anyT_take (i := 20) (oi := { dst := some 25, op := Go.Op.load 60 (Go.Operand.tmp 3), type := 60, pos := "states.go:87", after := #[{ on := 16, ground := Go.Ground.guard }], guard := some (16, true) }) (v := ?_) rfl (by kernel_rfl) (by kernel_rfl) (by kernel_rfl) (by decide) (by decide) (by kernel_rfl) (by kernel_rfl) (fun _ _ _ h => h) (Or.inl ⟨by rfl, ?_⟩) HH0 inv (fun inv => ?_)
 rotate_left
 ·intro w hSw
  try dsimp only at hSw
  go_simp
  try with_reducible rfl
 simp only [Act.put, List.setIfInBounds_toArray, List.set_cons_zero, List.set_cons_succ]
 refine anyT_next (i := 21) (o := { dst := some 26, op := Go.Op.call { callee := Go.Callee.value (Go.Operand.func 111), args := #[Go.Operand.tmp 24, Go.Operand.tmp 25], argTypes := #[27, 60] }, type := 64, pos := "states.go:87", after := #[{ on := 19, ground := Go.Ground.data }, { on := 20, ground := Go.Ground.data }, { on := 16, ground := Go.Ground.chain }, { on := 16, ground := Go.Ground.guard }], guard := some (16, true) }) (by kernel_rfl) rfl (by decide) inv (fun inv K' hK => ?_)
 go_simp
 refine KR.out.mono ?_
 rintro e w6 ⟨rv, rfl, hrv, hb6⟩
 obtain ⟨ro, rc, rfl, hrn⟩ := right_len hrv
 rw [HRL.out] at hrn ⊢
 have HB6 := hid (HBe.out.trans (hb6.mono hwe))
 have HH1 := HS.out w6 HB6.out
 have HB7 := hid (HBE.out.trans (hb6.mono HBE.out.size))
 refine hK.out _ _ HH1 ?_
 clear hK K' HH0 hb6 hrv KR
 try simp only [Act.put, List.setIfInBounds_toArray, List.set_cons_zero, List.set_cons_succ]
 refine anyT_take (i := 22) (oi := { dst := some 27, op := Go.Op.call { callee := Go.Callee.builtin Go.Builtin.len, args := #[Go.Operand.tmp 26], argTypes := #[64] }, type := 3, pos := "states.go:87", after := #[{ on := 21, ground := Go.Ground.data }, { on := 16, ground := Go.Ground.guard }], guard := some (16, true) }) (v := ?_) rfl (by kernel_rfl) (by kernel_rfl) (by kernel_rfl) (by decide) (by decide) (by kernel_rfl) (by kernel_rfl) (fun _ _ _ h => h) (Or.inl ⟨by rfl, ?_⟩) HH1 inv (fun inv => ?_)
 rotate_left
 ·intro w hSw
  try dsimp only at hSw
  go_simp
  try with_reducible rfl
 simp only [Act.put, List.setIfInBounds_toArray, List.set_cons_zero, List.set_cons_succ]
 refine anyT_take (i := 23) (oi := { dst := some 28, op := Go.Op.binOp Go.BinOp.leq 3 (Go.Operand.tmp 23) (Go.Operand.tmp 27) 3, type := 4, pos := "states.go:87", after := #[{ on := 18, ground := Go.Ground.data }, { on := 22, ground := Go.Ground.data }, { on := 16, ground := Go.Ground.guard }], guard := some (16, true) }) (v := ?_) rfl (by kernel_rfl) (by kernel_rfl) (by kernel_rfl) (by decide) (by decide) (by kernel_rfl) (by kernel_rfl) (fun _ _ _ h => h) (Or.inl ⟨by rfl, ?_⟩) HH1 inv (fun inv => ?_)
 rotate_left
 ·intro w hSw
  try dsimp only at hSw
  go_simp
  try with_reducible rfl
 simp only [Act.put, List.setIfInBounds_toArray, List.set_cons_zero, List.set_cons_succ]
 refine anyT_take (i := 24) (oi := { dst := some 29, op := Go.Op.pick (Go.Operand.tmp 21) (Go.Operand.tmp 28) (Go.Operand.const (Go.Value.bool false)), type := 4, pos := "states.go:87", after := #[{ on := 16, ground := Go.Ground.data }, { on := 23, ground := Go.Ground.data }], guard := none }) (v := ?_) rfl (by kernel_rfl) (by kernel_rfl) (by kernel_rfl) (by decide) (by decide) (by kernel_rfl) (by kernel_rfl) (fun _ _ _ h => h) (Or.inl ⟨by rfl, ?_⟩) HH1 inv (fun inv => ?_)
 rotate_left
 ·intro w hSw
  try dsimp only at hSw
  go_simp
  try with_reducible rfl
 simp only [Act.put, List.setIfInBounds_toArray, List.set_cons_zero, List.set_cons_succ]
 refine anyT_one (i := 25) (o := { dst := some 4, op := Go.Op.assign (Go.Operand.tmp 29), type := 4, pos := "states.go:87", after := #[{ on := 24, ground := Go.Ground.data }, { on := 21, ground := Go.Ground.chain }, { on := 0, ground := Go.Ground.phase }, { on := 1, ground := Go.Ground.phase }, { on := 2, ground := Go.Ground.phase }, { on := 3, ground := Go.Ground.phase }, { on := 4, ground := Go.Ground.phase }, { on := 5, ground := Go.Ground.phase }, { on := 6, ground := Go.Ground.phase }, { on := 7, ground := Go.Ground.phase }, { on := 8, ground := Go.Ground.phase }, { on := 9, ground := Go.Ground.phase }, { on := 10, ground := Go.Ground.phase }, { on := 11, ground := Go.Ground.phase }, { on := 12, ground := Go.Ground.phase }, { on := 13, ground := Go.Ground.phase }, { on := 14, ground := Go.Ground.phase }, { on := 15, ground := Go.Ground.phase }, { on := 16, ground := Go.Ground.phase }, { on := 17, ground := Go.Ground.phase }, { on := 18, ground := Go.Ground.phase }, { on := 19, ground := Go.Ground.phase }, { on := 20, ground := Go.Ground.phase }, { on := 21, ground := Go.Ground.phase }, { on := 22, ground := Go.Ground.phase }, { on := 23, ground := Go.Ground.phase }, { on := 24, ground := Go.Ground.phase }], guard := none }) (by kernel_rfl) rfl (fun K' hK => ?_)
 go_simp
 refine hK.out _ _ (fun h => absurd h (by decide)) ?_
 clear hK K'
 try simp only [Act.put, List.setIfInBounds_toArray, List.set_cons_zero, List.set_cons_succ]
 refine anyT_done (by kernel_rfl) ?_ _
 go_wp2_with fail
 go_ret
 exact ⟨rfl, HB7.out⟩
end Go.Proofs.YticmnfmijdgmbaaGreatDoor

/- What is behind a dot. -/
namespace Go.Proofs.YticmnfmijdgmbaaGreatDoor
open Go Go.RowKit Go.Lib
open X14 (It rightX thereX behX)
set_option linter.unusedVariables false
set_option linter.unusedSimpArgs false
def BehP (G : GD) (x : It) (w : World) (e : Ending) (w' : World) : Prop := e = .returned (.tuple #[.int .i64 ((behX G x).getD 0), .bool (behX G x).isSome]) ∧ Below w.heap.size w w'
set_option maxRecDepth 100000 in
set_option maxHeartbeats 8000000 in
theorem behind_any {G : GD} {gv : Value} {w : World} (h : Gram w gv G) (hv : validB G = true) (x : It) (ht : thereX G x = true) :
  Calls Tryz.prog 65 #[gv, itV x] w (BehP G x w) := by
 have HGr := hid h
 have HV := hid hv
 have hX := X14.there_iff.1 ht
 have HBX := hid (show behX G x = (rightX G x.1)[x.2.toNat]? from by unfold behX; rw [if_pos ht])
 obtain ⟨tv, ov, sv, pv, tf, rv, h⟩ := h
 obtain ⟨W1, B, hW1, hB, c0, c1, c2, c3, c4, hG, hb, hsz⟩ := gr_box h
 have hgv := h.eq
 subst hgv hB
 have e1 := hW1.symm
 obtain ⟨W2, e2⟩ : ∃ W2, W1.alloc (.cells #[.int .i64 x.1, .int .i64 x.2] 60) = W2 := ⟨_, rfl⟩
 have hb2 : Below W1.heap.size W1 W2 := by rw [← e2]; exact (Below.refl _ _).alloc (Nat.le_refl _) _
 have n2 : W2.heap[W1.heap.size]? = some (.cells #[.int .i64 x.1, .int .i64 x.2] 60 (0, 0)) := by rw [← e2]; exact heap_alloc_new _ _
 have lW : W1.heap.size < W2.heap.size := (Array.getElem?_eq_some_iff.1 n2).1
 have HB2 := hid (hb.trans (hb2.mono hsz))
 have c0 := cell_below hb2 c0
 have c1 := cell_below hb2 c1
 have c2 := cell_below hb2 c2
 have c3 := cell_below hb2 c3
 have c4 := cell_below hb2 c4
 have d0 : W2.cell? ⟨W1.heap.size, 0, none⟩ = some (.int .i64 x.1) := Lib.cell_of_heap n2 0
 have d1 : W2.cell? ⟨W1.heap.size, 1, none⟩ = some (.int .i64 x.2) := Lib.cell_of_heap n2 1
 have K := hid (right_any (HGr.out.below HB2.out) HV.out x hX.1 hX.2.1)
 have D1 := hid d1
 unfold itV at K ⊢
 clear h hG hW1 hb hb2 n2 ht
 obtain ⟨a, b⟩ := x
 dsimp only at *
 go_enter Tryz.func65, Tryz.ntmps65
 go_wp2_with fail
 refine K.out.mono ?_
 rintro e w3 ⟨rv, rfl, hrv, hb3⟩
 have HRV := hid hrv
 obtain ⟨ro, rc, rfl, hrn⟩ := right_len hrv
 have d1 := cell_below hb3 D1.out
 have HB3 := hid (HB2.out.trans (hb3.mono HB2.out.size))
 clear hb3 hrv K d0 c0 c1 c2 c3 c4
 obtain ⟨n, rfl⟩ : ∃ n : Nat, b = (n : Int) := ⟨b.toNat, by omega⟩
 rw [Int.toNat_natCast] at HBX
 by_cases he : n = (rightX G a).length
 ·have HBN := hid (show behX G (a, (n : Int)) = none from by rw [HBX.out]; exact List.getElem?_eq_none (by omega))
  clear HBX
  subst he
  go_wp2_with fail
  refine bodyPost_ret (results_tmp2 rfl _ _ _) rfl ?_
  refine ⟨?_, HB3.out⟩
  rw [HBN.out]
  rfl
 ·have hlt : n < (rightX G a).length := by omega
  obtain ⟨⟨ro', rc', hro, _, hcs⟩, _⟩ := HRV.out
  obtain ⟨b0, off, e, hcq⟩ := hcs (by omega)
  injection hro with hr1 hr2 hr3
  subst hr1
  subst e
  have cs : w3.cell? ⟨b0, off + n, none⟩ = some (.int .i64 ((rightX G a).getD n 0)) := hcq n hlt
  have hget : (rightX G a).getD n 0 = (rightX G a)[n] := by rw [List.getD_eq_getElem?_getD, List.getElem?_eq_getElem hlt]; rfl
  rw [hget] at cs
  have HBN := hid (show behX G (a, (n : Int)) = some (rightX G a)[n] from by rw [HBX.out]; exact List.getElem?_eq_getElem hlt)
  generalize (rightX G a)[n] = y at *
  have n0 : (0 : Int) ≤ (n : Int) := by omega
  have n1 : (n : Int) < ((rightX G a).length : Int) := by omega
  have t0 : ((n : Int) == ((rightX G a).length : Int)) = false := by rw [beq_eq_false_iff_ne]; omega
  clear HBX hcs hcq HRV hget
  go_wp2_with fail
  refine bodyPost_ret (results_tmp2 rfl _ _ _) rfl ?_
  refine ⟨?_, HB3.out⟩
  rw [HBN.out]
  rfl
end Go.Proofs.YticmnfmijdgmbaaGreatDoor
