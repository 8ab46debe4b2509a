/- The document's answers: right sides, which items there are, what is behind a dot. -/
import Derived.Test.YticmnfmijdgmbaaGreatDoorGb
import Derived.Test.YticmnfmijdgmbaaGreatDoorRa
namespace Go.Proofs.YticmnfmijdgmbaaGreatDoor
open Go Go.RowKit Go.Lib
open X14 (It rightX thereX behX)
set_option linter.unusedVariables false
set_option linter.unusedSimpArgs false
def isV (G : GD) (x : It) : Bool := validB G && thereX G x
def behV (G : GD) (x : It) : Option Int := if validB G = true then behX G x else none
set_option maxRecDepth 100000 in
set_option maxHeartbeats 8000000 in
theorem RIs_any {G : GD} {gv : Value} {w : World} (h : Gram w gv G) (x : It) :
  Calls Tryz.prog 57 #[gv, itV x] w fun e w' => e = .returned (.bool (isV G x)) ∧ Below w.heap.size w w' := by
 have HGr := hid h
 obtain ⟨tv, ov, sv, pv, tf, rv, h⟩ := h
 obtain ⟨W1, B, hW1, hB, c0, c1, c2, c3, c4, hG, hb, hsz⟩ := gr_box h
 have hgv := h.eq
 subst hgv hB
 have e1 := hW1.symm
 obtain ⟨W2, e2⟩ : ∃ W2, W1.alloc (.cells #[.int .i64 x.1, .int .i64 x.2] 110) = W2 := ⟨_, rfl⟩
 have hb2 : Below W1.heap.size W1 W2 := by rw [← e2]; exact (Below.refl _ _).alloc (Nat.le_refl _) _
 have n2 : W2.heap[W1.heap.size]? = some (.cells #[.int .i64 x.1, .int .i64 x.2] 110 (0, 0)) := by rw [← e2]; exact heap_alloc_new _ _
 obtain ⟨pa, pc, rfl, hpn, hpc⟩ := hG.prods
 have lW : W1.heap.size < W2.heap.size := (Array.getElem?_eq_some_iff.1 n2).1
 have lB : w.heap.size < W1.heap.size := World.block_lt_of_cell? W1 _ c3
 have HB2 := hid (hb.trans (hb2.mono hsz))
 have c0 := cell_below hb2 c0
 have c1 := cell_below hb2 c1
 have c2 := cell_below hb2 c2
 have c3 := cell_below hb2 c3
 have c4 := cell_below hb2 c4
 have HN2 := hid n2
 have HC := hid (And.intro c0 (And.intro c1 (And.intro c2 (And.intro c3 c4))))
 have hfin : ∀ (W3 : World), Below W2.heap.size W2 W3 → Gram W3 (.agg #[tv, ov, sv, .slice pa G.prods.length pc, .int .i64 G.start]) G := fun W3 hC => HGr.out.below (HB2.out.trans (hC.mono HB2.out.size))
 have HWG := hid hfin
 have KV := hid (RValid_any (hG.mono hb2))
 obtain ⟨vv, hvv⟩ : ∃ vv, validB G = vv := ⟨_, rfl⟩
 have HVV := hid hvv
 rw [hvv] at KV
 unfold itV
 clear h hG hpc hW1 hb hb2 n2 hfin hvv
 obtain ⟨a, b⟩ := x
 dsimp only at *
 have HTX := hid (show isV G (a, b) = (vv && decide (-1 ≤ a ∧ a < (G.prods.length : Int) ∧ 0 ≤ b ∧ b ≤ ((rightX G a).length : Int))) from by unfold isV; rw [HVV.out]; rfl)
 obtain ⟨IV, hIV⟩ : ∃ IV, isV G (a, b) = IV := ⟨_, rfl⟩
 rw [hIV] at HTX
 rw [hIV]
 clear hIV
 go_enter Tryz.func57, Tryz.ntmps57
 go_wp2_with fail
 refine KV.out.mono ?_
 rintro e w3 ⟨rfl, hb3⟩
 have HB3 := hid (HB2.out.trans (hb3.mono HB2.out.size))
 have n3 := (hb3.block _ lW).trans HN2.out
 have HF0 : Hid (∀ w', Below w3.heap.size w3 w' → w'.cell? ⟨W1.heap.size, 0, none⟩ = some (.int .i64 a)) := hid fun w' hC => cell_below hC (Lib.cell_of_heap n3 0)
 have HF1 : Hid (∀ w', Below w3.heap.size w3 w' → w'.cell? ⟨W1.heap.size, 1, none⟩ = some (.int .i64 b)) := hid fun w' hC => cell_below hC (Lib.cell_of_heap n3 1)
 have HF2 : Hid (∀ w', Below w3.heap.size w3 w' → w'.cell? ⟨w.heap.size, 3, none⟩ = some (.slice pa G.prods.length pc)) := hid fun w' hC => cell_below hC (cell_below hb3 HC.out.2.2.2.1)
 have hgg : ∀ w', Below w3.heap.size w3 w' → w'.cell? ⟨w.heap.size, 0, none⟩ = some tv ∧ w'.cell? ⟨w.heap.size, 1, none⟩ = some ov ∧ w'.cell? ⟨w.heap.size, 2, none⟩ = some sv ∧ w'.cell? ⟨w.heap.size, 4, none⟩ = some (.int .i64 G.start) := fun w' hC =>
  ⟨cell_below hC (cell_below hb3 HC.out.1), cell_below hC (cell_below hb3 HC.out.2.1), cell_below hC (cell_below hb3 HC.out.2.2.1), cell_below hC (cell_below hb3 HC.out.2.2.2.2)⟩
 have HGc := hid hgg
 have HW3 := hid (show ∀ w', Below w3.heap.size w3 w' → Gram w' (.agg #[tv, ov, sv, .slice pa G.prods.length pc, .int .i64 G.start]) G from fun w' hC => HWG.out w' (hb3.trans (hC.mono hb3.size)))
 have hl3 : w.heap.size < w3.heap.size := by have := hb3.size; omega
 clear hb3 n3 hgg KV e1 e2 c0 c1 c2 c3 c4 HC HWG
 cases vv
 ·obtain rfl : false = IV := HTX.out.symm
  clear HTX
  go_wp2_with fail
  refine wp_region_below (by kernel_rfl) (by kernel_rfl) ?_
  iterate 30
   first
   | with_reducible refine BigFrame.wpQuiet_skip (by with_unfolding_all rfl) ?_
   | with_reducible refine BigFrame.wpQuiet_want (by kernel_rfl) (fun K hK => ?_)
     apply Exists.intro
     refine ⟨fun w' hC => ?_, hK _ ?_⟩
     ·unfold Oper.quietAt
      go_simp
      first | with_reducible rfl | done
     clear hK K
   try simp only [Act.put, sjA, sj0, sjS]
  refine wpQuiet_nil ?_
  intro w6 hb6
  have HB6 := hid (HB3.out.trans (hb6.mono HB3.out.size))
  clear hb6
  go_wp2_with fail
  go_ret
  exact ⟨rfl, HB6.out⟩
 rw [Bool.true_and] at HTX
 by_cases h1 : -1 ≤ a ∧ a < (G.prods.length : Int) ∧ 0 ≤ b
 case neg =>
  obtain rfl : false = IV := by rw [HTX.out]; exact (decide_eq_false (fun h => h1 ⟨h.1, h.2.1, h.2.2.1⟩)).symm
  clear HTX
  generalize G.prods.length = np at *
  have hx : (¬ -1 ≤ a) ∨ (-1 ≤ a ∧ ¬ a < (np : Int)) ∨ (-1 ≤ a ∧ a < (np : Int) ∧ ¬ 0 ≤ b) := by omega
  have HTX := hid trivial
  clear h1
  rcases hx with k1 | ⟨k1, k2⟩ | ⟨k1, k2, k3⟩
  ·have d1 : decide (-1 ≤ a) = false := decide_eq_false k1
   clear HTX
   go_wp2_with fail
   refine wp_region_below (by kernel_rfl) (by kernel_rfl) ?_
   iterate 30
    first
    | with_reducible refine BigFrame.wpQuiet_skip (by with_unfolding_all rfl) ?_
    | with_reducible refine BigFrame.wpQuiet_want (by kernel_rfl) (fun K hK => ?_)
      apply Exists.intro
      refine ⟨fun w' hC => ?_, hK _ ?_⟩
      ·have f0' := HF0.out w' hC
       have f1' := HF1.out w' hC
       have f2' := HF2.out w' hC
       unfold Oper.quietAt
       go_simp
       first | with_reducible rfl | done
      clear hK K
    try simp only [Act.put, sjA, sj0, sjS]
   refine wpQuiet_nil ?_
   intro w6 hb6
   have HB6 := hid (HB3.out.trans (hb6.mono HB3.out.size))
   clear hb6
   go_wp2_with fail
   go_ret
   exact ⟨rfl, HB6.out⟩
  ·have d1 : decide (-1 ≤ a) = true := decide_eq_true k1
   have d2 : decide (a < (np : Int)) = false := decide_eq_false k2
   clear HTX
   go_wp2_with fail
   refine wp_region_below (by kernel_rfl) (by kernel_rfl) ?_
   iterate 30
    first
    | with_reducible refine BigFrame.wpQuiet_skip (by with_unfolding_all rfl) ?_
    | with_reducible refine BigFrame.wpQuiet_want (by kernel_rfl) (fun K hK => ?_)
      apply Exists.intro
      refine ⟨fun w' hC => ?_, hK _ ?_⟩
      ·have f0' := HF0.out w' hC
       have f1' := HF1.out w' hC
       have f2' := HF2.out w' hC
       unfold Oper.quietAt
       go_simp
       first | with_reducible rfl | done
      clear hK K
    try simp only [Act.put, sjA, sj0, sjS]
   refine wpQuiet_nil ?_
   intro w6 hb6
   have HB6 := hid (HB3.out.trans (hb6.mono HB3.out.size))
   clear hb6
   go_wp2_with fail
   go_ret
   exact ⟨rfl, HB6.out⟩
  ·have d1 : decide (-1 ≤ a) = true := decide_eq_true k1
   have d2 : decide (a < (np : Int)) = true := decide_eq_true k2
   have d3 : decide (0 ≤ b) = false := decide_eq_false k3
   clear HTX
   go_wp2_with fail
   refine wp_region_below (by kernel_rfl) (by kernel_rfl) ?_
   iterate 30
    first
    | with_reducible refine BigFrame.wpQuiet_skip (by with_unfolding_all rfl) ?_
    | with_reducible refine BigFrame.wpQuiet_want (by kernel_rfl) (fun K hK => ?_)
      apply Exists.intro
      refine ⟨fun w' hC => ?_, hK _ ?_⟩
      ·have f0' := HF0.out w' hC
       have f1' := HF1.out w' hC
       have f2' := HF2.out w' hC
       unfold Oper.quietAt
       go_simp
       first | with_reducible rfl | done
      clear hK K
    try simp only [Act.put, sjA, sj0, sjS]
   refine wpQuiet_nil ?_
   intro w6 hb6
   have HB6 := hid (HB3.out.trans (hb6.mono HB3.out.size))
   clear hb6
   go_wp2_with fail
   go_ret
   exact ⟨rfl, HB6.out⟩
 obtain ⟨k1, k2, k3⟩ := h1
 have d1 : decide (-1 ≤ a) = true := decide_eq_true k1
 have d2 : decide (a < (G.prods.length : Int)) = true := decide_eq_true k2
 have d3 : decide (0 ≤ b) = true := decide_eq_true k3
 obtain ⟨rl, hrl⟩ : ∃ rl, (rightX G a).length = rl := ⟨_, rfl⟩
 have HRL := hid hrl
 obtain rfl : decide (b ≤ (rl : Int)) = IV := by
  rw [HTX.out, hrl]
  by_cases hh : b ≤ (rl : Int)
  ·rw [decide_eq_true hh]; exact (decide_eq_true ⟨k1, k2, k3, hh⟩).symm
  ·rw [decide_eq_false hh]; exact (decide_eq_false (fun h => hh h.2.2.2)).symm
 clear HTX hrl
 obtain ⟨we, ewe⟩ : ∃ we, w3.drew = we := ⟨_, rfl⟩
 have hbe : Below w3.heap.size w3 we := by rw [← ewe]; exact (Below.refl _ _).drew
 have HBE := hid (HB3.out.trans (hbe.mono HB3.out.size))
 have hS : ∀ w', Below w3.heap.size w3 w' → w'.cell? ⟨W1.heap.size, 0, none⟩ = some (.int .i64 a) ∧ w'.cell? ⟨W1.heap.size, 1, none⟩ = some (.int .i64 b) ∧ w'.cell? ⟨w.heap.size, 3, none⟩ = some (.slice pa G.prods.length pc) ∧ w'.cell? ⟨w.heap.size, 0, none⟩ = some tv ∧ w'.cell? ⟨w.heap.size, 1, none⟩ = some ov ∧ w'.cell? ⟨w.heap.size, 2, none⟩ = some sv ∧ w'.cell? ⟨w.heap.size, 4, none⟩ = some (.int .i64 G.start) :=
  fun w' hC => ⟨HF0.out w' hC, HF1.out w' hC, HF2.out w' hC, (HGc.out w' hC).1, (HGc.out w' hC).2.1, (HGc.out w' hC).2.2.1, (HGc.out w' hC).2.2.2⟩
 have HH0 := hS we hbe
 have HS := hid hS
 have KR := hid (RRight_any (HW3.out we hbe) HVV.out a k1 k2)
 have hwe := hbe.size
 have HBe := hid hbe
 clear hS hbe
 generalize hnp : G.prods.length = np at *
 clear hnp
 go_wp2_with fail
 refine region_T 29 (fun w' => w'.cell? ⟨W1.heap.size, 0, none⟩ = some (.int .i64 a) ∧ w'.cell? ⟨W1.heap.size, 1, none⟩ = some (.int .i64 b) ∧ w'.cell? ⟨w.heap.size, 3, none⟩ = some (.slice pa np pc) ∧ w'.cell? ⟨w.heap.size, 0, none⟩ = some tv ∧ w'.cell? ⟨w.heap.size, 1, none⟩ = some ov ∧ w'.cell? ⟨w.heap.size, 2, none⟩ = some sv ∧ w'.cell? ⟨w.heap.size, 4, none⟩ = some (.int .i64 G.start)) (by kernel_rfl) (by rw [ewe]; exact HH0) (fun inv hHeld => ?_)
 rw [ewe]
 clear hHeld ewe
 iterate 25
  refine anyT_auto (v := ?_) rfl (by kernel_rfl) (fun _ _ _ h => h) (Or.inl ⟨by rfl, ?_⟩) HH0 inv (fun inv => ?_)
  rotate_left
  ·intro w hSw
   try dsimp only at hSw
   go_simp
   try with_reducible rfl
  simp only [Act.put, sjA, sj0, sjS]
 refine anyT_next (i := 25) (o := { dst := some 33, op := Go.Op.call { callee := Go.Callee.value (Go.Operand.func 26), args := #[Go.Operand.tmp 30, Go.Operand.tmp 32], argTypes := #[27, 3] }, type := 64, pos := "ref.go:32", after := #[{ on := 22, ground := Go.Ground.data }, { on := 24, ground := Go.Ground.data }, { on := 19, ground := Go.Ground.chain }, { on := 19, ground := Go.Ground.guard }], guard := some (19, true) }) (by kernel_rfl) rfl (by decide) inv (fun inv K' hK => ?_)
 go_simp
 refine KR.out.mono ?_
 rintro e w6 ⟨rv, rfl, hrv, hb6⟩
 obtain ⟨ro, rc, rfl, hrn⟩ := right_len hrv
 rw [HRL.out] at hrn ⊢
 have HB6 := hid (HBe.out.trans (hb6.mono hwe))
 have HH1 := HS.out w6 HB6.out
 have HB7 := hid (HBE.out.trans (hb6.mono HBE.out.size))
 refine hK.out _ _ HH1 ?_
 clear hK K' HH0 hb6 hrv KR
 try simp only [Act.put, sjA, sj0, sjS]
 iterate 3
  refine anyT_auto (v := ?_) rfl (by kernel_rfl) (fun _ _ _ h => h) (Or.inl ⟨by rfl, ?_⟩) HH1 inv (fun inv => ?_)
  rotate_left
  ·intro w hSw
   try dsimp only at hSw
   go_simp
   try with_reducible rfl
  simp only [Act.put, sjA, sj0, sjS]
 refine anyT_one (i := 29) (o := { dst := some 4, op := Go.Op.assign (Go.Operand.tmp 36), type := 4, pos := "ref.go:32", after := #[{ on := 28, ground := Go.Ground.data }, { on := 25, ground := Go.Ground.chain }, { on := 0, ground := Go.Ground.phase }, { on := 1, ground := Go.Ground.phase }, { on := 2, ground := Go.Ground.phase }, { on := 3, ground := Go.Ground.phase }, { on := 4, ground := Go.Ground.phase }, { on := 5, ground := Go.Ground.phase }, { on := 6, ground := Go.Ground.phase }, { on := 7, ground := Go.Ground.phase }, { on := 8, ground := Go.Ground.phase }, { on := 9, ground := Go.Ground.phase }, { on := 10, ground := Go.Ground.phase }, { on := 11, ground := Go.Ground.phase }, { on := 12, ground := Go.Ground.phase }, { on := 13, ground := Go.Ground.phase }, { on := 14, ground := Go.Ground.phase }, { on := 15, ground := Go.Ground.phase }, { on := 16, ground := Go.Ground.phase }, { on := 17, ground := Go.Ground.phase }, { on := 18, ground := Go.Ground.phase }, { on := 19, ground := Go.Ground.phase }, { on := 20, ground := Go.Ground.phase }, { on := 21, ground := Go.Ground.phase }, { on := 22, ground := Go.Ground.phase }, { on := 23, ground := Go.Ground.phase }, { on := 24, ground := Go.Ground.phase }, { on := 25, ground := Go.Ground.phase }, { on := 26, ground := Go.Ground.phase }, { on := 27, ground := Go.Ground.phase }, { on := 28, ground := Go.Ground.phase }], guard := none }) (by kernel_rfl) rfl (fun K' hK => ?_)
 go_simp
 refine hK.out _ _ (fun h => absurd h (by decide)) ?_
 clear hK K'
 try simp only [Act.put, sjA, sj0, sjS]
 refine anyT_done (by kernel_rfl) ?_ _
 go_wp2_with fail
 go_ret
 exact ⟨rfl, HB7.out⟩
def BehVP (G : GD) (x : It) (w : World) (e : Ending) (w' : World) : Prop := e = .returned (.tuple #[.int .i64 ((behV G x).getD 0), .bool (behV G x).isSome]) ∧ Below w.heap.size w w'
theorem behV_no {G : GD} {x : It} (h : isV G x = false) : behV G x = none := by
 unfold behV
 split
 ·rename_i hv
  unfold isV at h
  rw [hv, Bool.true_and] at h
  unfold behX
  rw [if_neg (by rw [h]; exact Bool.false_ne_true)]
 ·rfl
theorem behV_yes {G : GD} {x : It} (h : isV G x = true) : behV G x = (rightX G x.1)[x.2.toNat]? := by
 unfold isV at h
 rw [Bool.and_eq_true] at h
 unfold behV behX
 rw [if_pos h.1, if_pos h.2]
set_option maxRecDepth 100000 in
set_option maxHeartbeats 8000000 in
theorem RBehind_any {G : GD} {gv : Value} {w : World} (h : Gram w gv G) (x : It) :
  Calls Tryz.prog 56 #[gv, itV x] w (BehVP G x w) := by
 have HGr := hid h
 obtain ⟨tv, ov, sv, pv, tf, rv, h⟩ := h
 obtain ⟨W1, B, hW1, hB, c0, c1, c2, c3, c4, hG, hb, hsz⟩ := gr_box h
 have hgv := h.eq
 subst hgv hB
 have e1 := hW1.symm
 obtain ⟨W2, e2⟩ : ∃ W2, W1.alloc (.cells #[.int .i64 x.1, .int .i64 x.2] 110) = W2 := ⟨_, rfl⟩
 have hb2 : Below W1.heap.size W1 W2 := by rw [← e2]; exact (Below.refl _ _).alloc (Nat.le_refl _) _
 have n2 : W2.heap[W1.heap.size]? = some (.cells #[.int .i64 x.1, .int .i64 x.2] 110 (0, 0)) := by rw [← e2]; exact heap_alloc_new _ _
 have lW : W1.heap.size < W2.heap.size := (Array.getElem?_eq_some_iff.1 n2).1
 have lB : w.heap.size < W1.heap.size := World.block_lt_of_cell? W1 _ c3
 have HB2 := hid (hb.trans (hb2.mono hsz))
 have c0 := cell_below hb2 c0
 have c1 := cell_below hb2 c1
 have c2 := cell_below hb2 c2
 have c3 := cell_below hb2 c3
 have c4 := cell_below hb2 c4
 have HF0 : Hid (∀ w', Below W2.heap.size W2 w' → w'.cell? ⟨W1.heap.size, 0, none⟩ = some (.int .i64 x.1)) := hid fun w' hC => cell_below hC (Lib.cell_of_heap n2 0)
 have HF1 : Hid (∀ w', Below W2.heap.size W2 w' → w'.cell? ⟨W1.heap.size, 1, none⟩ = some (.int .i64 x.2)) := hid fun w' hC => cell_below hC (Lib.cell_of_heap n2 1)
 have HF2 : Hid (∀ w', Below W2.heap.size W2 w' → w'.cell? ⟨w.heap.size, 3, none⟩ = some pv) := hid fun w' hC => cell_below hC c3
 have HF3 : Hid (∀ w', Below W2.heap.size W2 w' → w'.cell? ⟨w.heap.size, 0, none⟩ = some tv) := hid fun w' hC => cell_below hC c0
 have HF4 : Hid (∀ w', Below W2.heap.size W2 w' → w'.cell? ⟨w.heap.size, 1, none⟩ = some ov) := hid fun w' hC => cell_below hC c1
 have HF5 : Hid (∀ w', Below W2.heap.size W2 w' → w'.cell? ⟨w.heap.size, 2, none⟩ = some sv) := hid fun w' hC => cell_below hC c2
 have HF6 : Hid (∀ w', Below W2.heap.size W2 w' → w'.cell? ⟨w.heap.size, 4, none⟩ = some (.int .i64 G.start)) := hid fun w' hC => cell_below hC c4
 have HWG := hid (show ∀ w', Below W2.heap.size W2 w' → Gram w' (.agg #[tv, ov, sv, pv, .int .i64 G.start]) G from fun w' hC => HGr.out.below (HB2.out.trans (hC.mono HB2.out.size)))
 have hKI : ∀ w', Below W2.heap.size W2 w' → Calls Tryz.prog 57 #[.agg #[tv, ov, sv, pv, .int .i64 G.start], itV x] w' fun e w'' => e = .returned (.bool (isV G x)) ∧ Below w'.heap.size w' w'' := fun w' hC => RIs_any (HWG.out w' hC) x
 obtain ⟨iv, hiv⟩ : ∃ iv, isV G x = iv := ⟨_, rfl⟩
 rw [hiv] at hKI
 have KI := hid hKI
 have HIV := hid hiv
 unfold itV at KI ⊢
 clear h hG hW1 hb hb2 n2 hKI hiv c0 c1 c2 c3 c4
 cases iv
 ·have HNO := hid (behV_no HIV.out)
  go_enter Tryz.func56, Tryz.ntmps56
  go_wp2_with fail
  refine wp_region_below (by kernel_rfl) (by kernel_rfl) ?_
  iterate 14
   first
   | with_reducible refine BigFrame.wpQuiet_skip (by with_unfolding_all rfl) ?_
   | with_reducible refine BigFrame.wpQuiet_want (by kernel_rfl) (fun K hK => ?_)
     apply Exists.intro
     refine ⟨fun w' hC => ?_, hK _ ?_⟩
     ·have f0' := HF0.out w' hC
      have f1' := HF1.out w' hC
      have f2' := HF2.out w' hC
      have f3' := HF3.out w' hC
      have f4' := HF4.out w' hC
      have f5' := HF5.out w' hC
      have f6' := HF6.out w' hC
      unfold Oper.quietAt
      go_simp
      first | with_reducible rfl | with_reducible exact below_call hC (Nat.le_refl _) (KI.out w' hC)
     clear hK K
   try simp only [Act.put, sjA, sj0, sjS]
  refine wpQuiet_nil ?_
  intro w6 hb6
  have HB6 := hid (HB2.out.trans (hb6.mono HB2.out.size))
  clear hb6
  go_wp2_with fail
  refine bodyPost_ret (results_tmp2 rfl _ _ _) rfl ?_
  refine ⟨?_, HB6.out⟩
  rw [HNO.out]
  rfl
 have HBV := hid (behV_yes HIV.out)
 have hX := X14.there_iff.1 (show thereX G x = true from by
  have := HIV.out
  unfold isV at this
  rw [Bool.and_eq_true] at this
  exact this.2)
 have HV := hid (show validB G = true from by
  have := HIV.out
  unfold isV at this
  rw [Bool.and_eq_true] at this
  exact this.1)
 obtain ⟨a, b⟩ := x
 dsimp only at *
 obtain ⟨n, rfl⟩ : ∃ n : Nat, b = (n : Int) := ⟨b.toNat, by omega⟩
 rw [Int.toNat_natCast] at HBV
 obtain ⟨rl, hrl⟩ : ∃ rl, (rightX G a).length = rl := ⟨_, rfl⟩
 have HRL := hid hrl
 have HX := hid hX
 rw [hrl] at hX
 have hnrl : n ≤ rl := by omega
 clear hrl hX
 obtain ⟨we, ewe⟩ : ∃ we, W2.drew = we := ⟨_, rfl⟩
 have hbe : Below W2.heap.size W2 we := by rw [← ewe]; exact (Below.refl _ _).drew
 have HS := hid (show ∀ w', Below W2.heap.size W2 w' → (w'.cell? ⟨W1.heap.size, 0, none⟩ = some (.int .i64 a) ∧ w'.cell? ⟨W1.heap.size, 1, none⟩ = some (.int .i64 (n : Int)) ∧ w'.cell? ⟨w.heap.size, 3, none⟩ = some pv ∧ w'.cell? ⟨w.heap.size, 0, none⟩ = some tv ∧ w'.cell? ⟨w.heap.size, 1, none⟩ = some ov ∧ w'.cell? ⟨w.heap.size, 2, none⟩ = some sv ∧ w'.cell? ⟨w.heap.size, 4, none⟩ = some (.int .i64 G.start)) from fun w' hC => ⟨HF0.out w' hC, HF1.out w' hC, HF2.out w' hC, HF3.out w' hC, HF4.out w' hC, HF5.out w' hC, HF6.out w' hC⟩)
 have HH0 := HS.out we hbe
 have HBe := hid hbe
 have hwe := hbe.size
 clear hbe
 go_enter Tryz.func56, Tryz.ntmps56
 go_wp2_with fail
 refine region_T 13 (fun w' => w'.cell? ⟨W1.heap.size, 0, none⟩ = some (.int .i64 a) ∧ w'.cell? ⟨W1.heap.size, 1, none⟩ = some (.int .i64 (n : Int)) ∧ w'.cell? ⟨w.heap.size, 3, none⟩ = some pv ∧ w'.cell? ⟨w.heap.size, 0, none⟩ = some tv ∧ w'.cell? ⟨w.heap.size, 1, none⟩ = some ov ∧ w'.cell? ⟨w.heap.size, 2, none⟩ = some sv ∧ w'.cell? ⟨w.heap.size, 4, none⟩ = some (.int .i64 G.start)) (by kernel_rfl) (by rw [ewe]; exact HH0) (fun inv hHeld => ?_)
 rw [ewe]
 clear hHeld ewe
 iterate 2
  refine anyT_auto (v := ?_) rfl (by kernel_rfl) (fun _ _ _ h => h) (Or.inl ⟨by rfl, ?_⟩) HH0 inv (fun inv => ?_)
  rotate_left
  ·intro w hSw
   try dsimp only at hSw
   go_simp
   try with_reducible rfl
  simp only [Act.put, sjA, sj0, sjS]
 refine anyT_next (i := 2) (o := { dst := some 8, op := Go.Op.call { callee := Go.Callee.value (Go.Operand.func 57), args := #[Go.Operand.tmp 6, Go.Operand.tmp 7], argTypes := #[27, 110] }, type := 4, pos := "ref.go:37", after := #[{ on := 0, ground := Go.Ground.data }, { on := 1, ground := Go.Ground.data }], guard := none }) (by kernel_rfl) rfl (by decide) inv (fun inv K' hK => ?_)
 go_simp
 refine (KI.out we HBe.out).mono ?_
 rintro e w4 ⟨rfl, hb4⟩
 have HB4 := hid (HBe.out.trans (hb4.mono HBe.out.size))
 refine hK.out _ _ (HS.out w4 HB4.out) ?_
 have HH0 := HS.out w4 HB4.out
 clear hK K' hb4
 try simp only [Act.put, sjA, sj0, sjS]
 iterate 7
  refine anyT_auto (v := ?_) rfl (by kernel_rfl) (fun _ _ _ h => h) (Or.inl ⟨by rfl, ?_⟩) HH0 inv (fun inv => ?_)
  rotate_left
  ·intro w hSw
   try dsimp only at hSw
   go_simp
   try with_reducible rfl
  simp only [Act.put, sjA, sj0, sjS]
 refine anyT_next (i := 10) (o := { dst := some 16, op := Go.Op.call { callee := Go.Callee.value (Go.Operand.func 26), args := #[Go.Operand.tmp 13, Go.Operand.tmp 15], argTypes := #[27, 3] }, type := 64, pos := "ref.go:37", after := #[{ on := 7, ground := Go.Ground.data }, { on := 9, ground := Go.Ground.data }, { on := 4, ground := Go.Ground.chain }, { on := 4, ground := Go.Ground.guard }], guard := some (4, false) }) (by kernel_rfl) rfl (by decide) inv (fun inv K' hK => ?_)
 go_simp
 refine (RRight_any (HWG.out w4 HB4.out) HV.out a HX.out.1 HX.out.2.1).mono ?_
 rintro e w6 ⟨rv1, rfl, hrv, hb6⟩
 obtain ⟨ro, rc, rfl, hrn⟩ := right_len hrv
 rw [HRL.out] at hrn ⊢
 have HB6 := hid (HB4.out.trans (hb6.mono HB4.out.size))
 refine hK.out _ _ (HS.out w6 HB6.out) ?_
 have HH0 := HS.out w6 HB6.out
 clear hK K' hb6 hrv
 try simp only [Act.put, sjA, sj0, sjS]
 iterate 2
  refine anyT_auto (v := ?_) rfl (by kernel_rfl) (fun _ _ _ h => h) (Or.inl ⟨by rfl, ?_⟩) HH0 inv (fun inv => ?_)
  rotate_left
  ·intro w hSw
   try dsimp only at hSw
   go_simp
   try with_reducible rfl
  simp only [Act.put, sjA, sj0, sjS]
 refine anyT_one (i := 13) (o := { dst := some 19, op := Go.Op.pick (Go.Operand.tmp 10) (Go.Operand.const (Go.Value.bool true)) (Go.Operand.tmp 18), type := 4, pos := "ref.go:37", after := #[{ on := 4, ground := Go.Ground.data }, { on := 12, ground := Go.Ground.data }], guard := none }) (by kernel_rfl) rfl (fun K' hK => ?_)
 go_simp
 refine hK.out _ _ (fun h => absurd h (by decide)) ?_
 clear hK K'
 try simp only [Act.put, sjA, sj0, sjS]
 refine anyT_done (by kernel_rfl) ?_ _
 by_cases he : n = rl
 ·have HBN := hid (show behV G (a, (n : Int)) = none from by rw [HBV.out]; exact List.getElem?_eq_none (by have := HRL.out; omega))
  have HB7 := hid (HB2.out.trans (HB6.out.mono HB2.out.size))
  subst he
  clear HBV
  go_wp2_with fail
  refine bodyPost_ret (results_tmp2 rfl _ _ _) rfl ?_
  refine ⟨?_, HB7.out⟩
  rw [HBN.out]
  rfl
 have hlt : n < rl := by omega
 have hgt : ¬ (rl : Int) ≤ (n : Int) := by omega
 have hgt2 : decide (rl ≤ n) = false := decide_eq_false (by omega)
 obtain ⟨we, ewe⟩ : ∃ we, w6.drew = we := ⟨_, rfl⟩
 have hbe : Below w6.heap.size w6 we := by rw [← ewe]; exact (Below.refl _ _).drew
 have hBe := HB6.out.trans (hbe.mono HB6.out.size)
 have HH0 := HS.out we hBe
 have HBe := hid hBe
 clear hbe hBe HH0 KI
 have HH0 := HS.out we HBe.out
 go_wp2_with fail
 have n0 : (0 : Int) ≤ (n : Int) := by omega
 have n1 : (n : Int) < (rl : Int) := by omega
 refine region_T 9 (fun w' => w'.cell? ⟨W1.heap.size, 0, none⟩ = some (.int .i64 a) ∧ w'.cell? ⟨W1.heap.size, 1, none⟩ = some (.int .i64 (n : Int)) ∧ w'.cell? ⟨w.heap.size, 3, none⟩ = some pv ∧ w'.cell? ⟨w.heap.size, 0, none⟩ = some tv ∧ w'.cell? ⟨w.heap.size, 1, none⟩ = some ov ∧ w'.cell? ⟨w.heap.size, 2, none⟩ = some sv ∧ w'.cell? ⟨w.heap.size, 4, none⟩ = some (.int .i64 G.start)) (by kernel_rfl) (by rw [ewe]; exact HH0) (fun inv hHeld => ?_)
 rw [ewe]
 clear hHeld ewe
 iterate 5
  refine anyT_auto (v := ?_) rfl (by kernel_rfl) (fun _ _ _ h => h) (Or.inl ⟨by rfl, ?_⟩) HH0 inv (fun inv => ?_)
  rotate_left
  ·intro w hSw
   try dsimp only at hSw
   go_simp
   try with_reducible rfl
  simp only [Act.put, sjA, sj0, sjS]
 refine anyT_next (i := 3) (o := { dst := some 23, op := Go.Op.call { callee := Go.Callee.value (Go.Operand.func 26), args := #[Go.Operand.tmp 20, Go.Operand.tmp 22], argTypes := #[27, 3] }, type := 64, pos := "ref.go:40", after := #[{ on := 0, ground := Go.Ground.data }, { on := 2, ground := Go.Ground.data }], guard := none }) (by kernel_rfl) rfl (by decide) inv (fun inv K' hK => ?_)
 go_simp
 refine (RRight_any (HWG.out we HBe.out) HV.out a HX.out.1 HX.out.2.1).mono ?_
 rintro e w8 ⟨rv2, rfl, hrv, hb8⟩
 obtain ⟨ro2, rc2, rfl, hrn2⟩ := right_len hrv
 obtain ⟨⟨ro', rc', hro, _, hcs⟩, _⟩ := hrv
 rw [HRL.out] at hro hcs hrn2 ⊢
 obtain ⟨b0, off, e, hcq⟩ := hcs (by omega)
 injection hro with hr1 hr2 hr3
 subst hr1
 subst e
 have cs : w8.cell? ⟨b0, off + n, none⟩ = some (.int .i64 ((rightX G a).getD n 0)) := hcq n hlt
 have hll : n < (rightX G a).length := by rw [HRL.out]; exact hlt
 have hget : (rightX G a).getD n 0 = (rightX G a)[n] := by rw [List.getD_eq_getElem?_getD, List.getElem?_eq_getElem hll]; rfl
 rw [hget] at cs
 have HBN := hid (show behV G (a, (n : Int)) = some (rightX G a)[n] from by rw [HBV.out]; exact List.getElem?_eq_getElem hll)
 generalize (rightX G a)[n] = y at *
 have HB8 := hid (HBe.out.trans (hb8.mono HBe.out.size))
 have HH1 := HS.out w8 HB8.out
 refine hK.out _ _ HH1 ?_
 clear hK K' hb8 HH0 hcs hcq hget hr2 hr3
 try simp only [Act.put, sjA, sj0, sjS]
 refine anyT_next (i := 6) (o := { dst := some 26, op := Go.Op.indexAddr 64 (Go.Operand.tmp 23) (Go.Operand.tmp 25), type := 0, pos := "ref.go:40", after := #[{ on := 3, ground := Go.Ground.data }, { on := 5, ground := Go.Ground.data }], guard := none }) (by kernel_rfl) rfl (by decide) inv (fun inv K' hK => ?_)
 go_simp
 refine hK.out _ _ HH1 ?_
 clear hK K'
 try simp only [Act.put, sjA, sj0, sjS]
 refine anyT_next (i := 7) (o := { dst := some 27, op := Go.Op.load 61 (Go.Operand.tmp 26), type := 61, pos := "ref.go:40", after := #[{ on := 6, ground := Go.Ground.data }], guard := none }) (by kernel_rfl) rfl (by decide) inv (fun inv K' hK => ?_)
 go_simp
 refine hK.out _ _ HH1 ?_
 clear hK K'
 try simp only [Act.put, sjA, sj0, sjS]
 refine anyT_next (i := 8) (o := { dst := some 4, op := Go.Op.assign (Go.Operand.tmp 27), type := 61, pos := "ref.go:40", after := #[{ on := 7, ground := Go.Ground.data }, { on := 3, ground := Go.Ground.chain }, { on := 0, ground := Go.Ground.phase }, { on := 1, ground := Go.Ground.phase }, { on := 2, ground := Go.Ground.phase }, { on := 3, ground := Go.Ground.phase }, { on := 4, ground := Go.Ground.phase }, { on := 5, ground := Go.Ground.phase }, { on := 6, ground := Go.Ground.phase }, { on := 7, ground := Go.Ground.phase }], guard := none }) (by kernel_rfl) rfl (by decide) inv (fun inv K' hK => ?_)
 go_simp
 refine hK.out _ _ HH1 ?_
 clear hK K'
 try simp only [Act.put, sjA, sj0, sjS]
 refine anyT_one (i := 9) (o := { dst := some 5, op := Go.Op.assign (Go.Operand.const (Go.Value.bool true)), type := 4, pos := "ref.go:40", after := #[{ on := 8, ground := Go.Ground.chain }, { on := 0, ground := Go.Ground.phase }, { on := 1, ground := Go.Ground.phase }, { on := 2, ground := Go.Ground.phase }, { on := 3, ground := Go.Ground.phase }, { on := 4, ground := Go.Ground.phase }, { on := 5, ground := Go.Ground.phase }, { on := 6, ground := Go.Ground.phase }, { on := 7, ground := Go.Ground.phase }, { on := 8, ground := Go.Ground.phase }], guard := none }) (by kernel_rfl) rfl (fun K' hK => ?_)
 go_simp
 refine hK.out _ _ (fun h => absurd h (by decide)) ?_
 clear hK K'
 try simp only [Act.put, sjA, sj0, sjS]
 refine anyT_done (by kernel_rfl) ?_ _
 have HB9 := hid (HB2.out.trans (HB8.out.mono HB2.out.size))
 clear HBV
 go_wp2_with fail
 refine bodyPost_ret (results_tmp2 rfl _ _ _) rfl ?_
 refine ⟨?_, HB9.out⟩
 rw [HBN.out]
 rfl
end Go.Proofs.YticmnfmijdgmbaaGreatDoor

namespace Go.Proofs.X14
open Go.Proofs.YticmnfmijdgmbaaGreatDoor (GD PD validB isV behV prodB valid_parts)
set_option linter.unusedVariables false
theorem nodup_le : ∀ {l m : List It}, l.Nodup → (∀ x ∈ l, x ∈ m) → l.length ≤ m.length
 | [], m, _, _ => Nat.zero_le _
 | x :: r, m, hn, hs => by
  obtain ⟨h1, h2⟩ := List.nodup_cons.1 hn
  have hx := hs x (by simp)
  have := nodup_le (m := m.erase x) h2 fun y hy => by
   exact (List.mem_erase_of_ne fun e : y = x => h1 (e ▸ hy)).2 (hs y (by simp [hy]))
  rw [List.length_erase_of_mem hx] at this
  have := List.length_pos_of_mem hx
  rw [List.length_cons]
  omega
theorem right_le {G : GD} (hv : validB G = true) {q : Int} (h0 : -1 ≤ q) (h1 : q < (G.prods.length : Int)) : (rightX G q).length ≤ 12 := by
 unfold rightX
 split
 ·show (1 : Nat) ≤ 12; omega
 ·have hq : q.toNat < G.prods.length := by omega
  obtain ⟨_, _, _, hp, _⟩ := valid_parts hv
  have hm : G.prods.getD q.toNat default ∈ G.prods := by
   rw [List.getD_eq_getElem?_getD, List.getElem?_eq_getElem hq]
   exact List.getElem_mem hq
  have := List.all_eq_true.1 hp _ hm
  unfold prodB at this
  simp only [Bool.and_eq_true, decide_eq_true_eq] at this
  omega
theorem flat_len {α : Type} (f : Nat → List α) (c : Nat) : ∀ l : List Nat, (∀ q ∈ l, (f q).length ≤ c) → (l.flatMap f).length ≤ l.length * c
 | [], _ => by simp
 | q :: l, h => by
  rw [List.flatMap_cons, List.length_append, List.length_cons, Nat.succ_mul]
  have h1 := h q (by simp)
  have h2 := flat_len f c l fun r hr => h r (by simp [hr])
  omega
theorem allI_len {G : GD} (hv : validB G = true) : (allI G).length ≤ 1573 := by
 unfold allI
 refine Nat.le_trans (flat_len _ 13 _ fun q hq => ?_) ?_
 ·rw [List.length_map, List.length_range]
  have := List.mem_range.1 hq
  have := right_le hv (q := (q : Int) - 1) (by omega) (by omega)
  omega
 ·rw [List.length_range]
  have := (valid_parts hv).2.2.1
  omega
open Classical in
noncomputable def closeV (G : GD) (l : List It) : List It := if validB G = true then closeX G l else []
noncomputable def stepV (G : GD) (l : List It) (s : Int) : List It := stepX G (closeV G l) s
theorem closeV_rise (G : GD) (l : List It) : Rise (closeV G l) := by
 unfold closeV
 split
 ·exact (closeX_is G l).1
 ·exact List.Pairwise.nil
theorem mem_closeV {G : GD} {l : List It} {x : It} : x ∈ closeV G l ↔ validB G = true ∧ InC G l x := by
 unfold closeV
 split
 ·rename_i h
  rw [(closeX_is G l).2 x]
  exact ⟨fun k => ⟨h, k⟩, fun k => k.2⟩
 ·rename_i h
  exact ⟨fun k => by simp at k, fun k => absurd k.1 h⟩
theorem Rise.nodup {l : List It} (h : Rise l) : l.Nodup := List.Pairwise.imp (fun {a b} (hab : Less a b) (e : a = b) => Less.irrefl (e ▸ hab : Less b b)) h
theorem closeV_len (G : GD) (l : List It) : (closeV G l).length ≤ 1573 := by
 unfold closeV
 split
 ·rename_i h
  exact Nat.le_trans (nodup_le (closeX_is G l).1.nodup fun x hx => mem_allI (((closeX_is G l).2 x).1 hx).there) (allI_len h)
 ·exact Nat.zero_le _
theorem stepV_len (G : GD) (l : List It) (s : Int) : (stepV G l s).length ≤ 1573 := by
 unfold stepV stepX
 rw [List.length_map]
 exact Nat.le_trans (List.length_filter_le _ _) (closeV_len G l)
structure GaX (G : GD) (l O : List It) (i : Nat) : Prop where
 inn : ∀ x ∈ O, isV G x = true ∧ x ∈ l
 base : ∀ x ∈ l.take i, isV G x = true → x ∈ O
 nd : O.Nodup
theorem GaX.start (G : GD) (l : List It) : GaX G l [] 0 := ⟨by simp, by simp, List.nodup_nil⟩
theorem GaX.skip {G : GD} {l O : List It} {i : Nat} {x : It} (h : GaX G l O i) (hx : l[i]? = some x) (hn : isV G x = true → x ∈ O) : GaX G l O (i + 1) :=
 ⟨h.inn, fun y hy hv => by
  rcases mem_take_succ hx hy with e | e
  ·exact h.base y e hv
  ·rw [e] at hv ⊢; exact hn hv, h.nd⟩
theorem GaX.put {G : GD} {l O : List It} {i : Nat} {x : It} (h : GaX G l O i) (hx : l[i]? = some x) (hv : isV G x = true) (hn : x ∉ O) : GaX G l (O ++ [x]) (i + 1) :=
 ⟨fun y hy => by
  rcases List.mem_append.1 hy with e | e
  ·exact h.inn y e
  ·obtain rfl : y = x := by simpa using e
   exact ⟨hv, List.mem_of_getElem? hx⟩, fun y hy hv => by
  rcases mem_take_succ hx hy with e | e
  ·exact List.mem_append_left _ (h.base y e hv)
  ·rw [e]; simp, List.nodup_append.2 ⟨h.nd, by simp, fun a ha b hb => by
   obtain rfl : b = x := by simpa using hb
   exact fun e => hn (e ▸ ha)⟩⟩
theorem isV_iff {G : GD} {x : It} : isV G x = true ↔ validB G = true ∧ thereX G x = true := by unfold isV; exact Bool.and_eq_true_iff
theorem in_len {G : GD} {O : List It} (hn : O.Nodup) (h : ∀ x ∈ O, isV G x = true) : O.length ≤ 1573 := by
 cases O with
 | nil => exact Nat.zero_le _
 | cons x r =>
  have hv := (isV_iff.1 (h x (by simp))).1
  exact Nat.le_trans (nodup_le hn fun y hy => mem_allI (isV_iff.1 (h y hy)).2) (allI_len hv)
structure ReX (G : GD) (l O : List It) (i : Nat) : Prop where
 inn : ∀ x ∈ O, validB G = true ∧ InC G l x
 base : ∀ x ∈ l, isV G x = true → x ∈ O
 nd : O.Nodup
 done : ∀ (j : Nat) (x : It) (s : Int) (p : Nat), j < i → O[j]? = some x → behX G x = some s → s < 0 → p < G.prods.length → sortX G p = -1 - s → ((p : Int), 0) ∈ O
theorem GaX.re {G : GD} {l O : List It} (h : GaX G l O l.length) : ReX G l O 0 :=
 ⟨fun x hx => ⟨(isV_iff.1 (h.inn x hx).1).1, .base x (h.inn x hx).2 (isV_iff.1 (h.inn x hx).1).2⟩, fun x hx hv => h.base x (by rw [List.take_length]; exact hx) hv, h.nd, fun j x s p hj => absurd hj (Nat.not_lt_zero j)⟩
theorem ReX.len {G : GD} {l O : List It} {i : Nat} (h : ReX G l O i) : O.length ≤ 1573 := in_len h.nd fun x hx => isV_iff.2 ⟨(h.inn x hx).1, (h.inn x hx).2.there⟩
theorem ReX.next {G : GD} {l O : List It} {i : Nat} {x : It} (h : ReX G l O i) (hx : O[i]? = some x) (hd : ∀ (s : Int) (p : Nat), behX G x = some s → s < 0 → p < G.prods.length → sortX G p = -1 - s → ((p : Int), 0) ∈ O) : ReX G l O (i + 1) :=
 ⟨h.inn, h.base, h.nd, fun j y s p hj hy hb hs hp he => by
  by_cases hji : j < i
  ·exact h.done j y s p hji hy hb hs hp he
  ·obtain rfl : j = i := by omega
   rw [hx] at hy
   injection hy with hy
   subst hy
   exact hd s p hb hs hp he⟩
theorem ReX.put {G : GD} {l O : List It} {i p : Nat} {x : It} {s : Int} (h : ReX G l O i) (hx : x ∈ O) (hi : i ≤ O.length) (hb : behX G x = some s) (hs : s < 0) (hp : p < G.prods.length) (he : sortX G p = -1 - s) (hn : ((p : Int), (0 : Int)) ∉ O) : ReX G l (O ++ [((p : Int), 0)]) i :=
 ⟨fun y hy => by
  rcases List.mem_append.1 hy with e | e
  ·exact h.inn y e
  ·obtain rfl : y = ((p : Int), 0) := by simpa using e
   exact ⟨(h.inn x hx).1, .more x s p (h.inn x hx).2 hb hs hp he⟩, fun y hy hv => List.mem_append_left _ (h.base y hy hv), List.nodup_append.2 ⟨h.nd, by simp, fun a ha b hb => by
   obtain rfl : b = ((p : Int), 0) := by simpa using hb
   exact fun e => hn (e ▸ ha)⟩, fun j y s' q hj hy hb' hs' hq he' => by
  rw [List.getElem?_append_left (by omega)] at hy
  exact List.mem_append_left _ (h.done j y s' q hj hy hb' hs' hq he')⟩
theorem ReX.close {G : GD} {l O L : List It} {i : Nat} (h : ReX G l O i) (hi : O.length ≤ i) (hr : Rise L) (hm : ∀ x, x ∈ L ↔ x ∈ O) : L = closeV G l := by
 refine hr.eq (closeV_rise G l) fun x => ?_
 rw [hm x, mem_closeV]
 refine ⟨h.inn x, fun hvx => ?_⟩
 obtain ⟨hv, hx⟩ := hvx
 induction hx with
 | base x hx ht => exact h.base x hx (isV_iff.2 ⟨hv, ht⟩)
 | more x s p hx hb hs hp he ih =>
  obtain ⟨j, hj, e⟩ := List.mem_iff_getElem.1 ih
  exact h.done j x s p (by omega) (by rw [List.getElem?_eq_getElem hj, e]) hb hs hp he
end Go.Proofs.X14
