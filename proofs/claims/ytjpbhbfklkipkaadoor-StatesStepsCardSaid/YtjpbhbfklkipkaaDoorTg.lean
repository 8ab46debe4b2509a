/- The walk of StatesSteps. -/
import Derived.Test.YtjpbhbfklkipkaaDoorTf
namespace Go.Proofs.YtjpbhbfklkipkaaDoor
open Go Go.RowKit Go.Lib
open X14 (It closeV stepV iterB BuiltOk)
set_option linter.unusedVariables false
set_option linter.unusedSimpArgs false
set_option maxRecDepth 100000 in
set_option maxHeartbeats 16000000 in
theorem steps_walk {G : GD} {gv : Value} {w : World} {Bt : Nat} (h : Gram w gv G) (at_ s : Int) (s0 : -9223372036854775808 ≤ s) (s1 : s ≤ 9223372036854775807) (ht : Tab Bt w) (hBt : Bt ≤ w.heap.size) :
    Calls Tryd.prog 7 #[gv, .int .i64 at_, .int .i64 s] w fun e w' => e = .returned (.bool true) ∧ Below w.heap.size w w' := by
  have HGr := hid h
  have HT := hid ht
  obtain ⟨tv, ov, sv, pv, tf, rv, h⟩ := h
  have hgv := h.eq
  subst hgv
  obtain ⟨W1, e1⟩ : ∃ W1, w.alloc (.cells #[tv, ov, sv, pv, .int .i64 G.start] 27) = W1 := ⟨_, rfl⟩
  have hb1 : Below w.heap.size w W1 := by rw [← e1]; exact (Below.refl _ _).alloc (Nat.le_refl _) _
  have n1 : W1.heap[w.heap.size]? = some (.cells #[tv, ov, sv, pv, .int .i64 G.start] 27 (0, 0)) := by rw [← e1]; exact new_block _ _
  have HB1 := hid hb1
  have HN1 := hid n1
  have KW := hid (works_any W1 (ht.on (hb1.mono hBt)) (Nat.le_trans hBt hb1.size))
  clear h hb1 n1 ht
  go_enter Tryd.func7, Tryd.ntmps7
  go_wp2_with fail
  refine KW.out.mono ?_
  rintro e w2 ⟨rfl, hb2⟩
  have HB2 := hid (HB1.out.trans (hb2.mono HB1.out.size))
  have HN2 := hid ((hb2.block _ (Array.getElem?_eq_some_iff.1 HN1.out).1).trans HN1.out)
  have c0 : w2.cell? ⟨w.heap.size, 0, none⟩ = some (tv) := Lib.cell_of_heap HN2.out 0
  have c1 : w2.cell? ⟨w.heap.size, 1, none⟩ = some (ov) := Lib.cell_of_heap HN2.out 1
  have c2 : w2.cell? ⟨w.heap.size, 2, none⟩ = some (sv) := Lib.cell_of_heap HN2.out 2
  have c3 : w2.cell? ⟨w.heap.size, 3, none⟩ = some (pv) := Lib.cell_of_heap HN2.out 3
  have c4 : w2.cell? ⟨w.heap.size, 4, none⟩ = some (.int .i64 G.start) := Lib.cell_of_heap HN2.out 4
  have KF := hid (Little_any (HGr.out.below HB2.out))
  clear hb2 KW e1
  go_wp2_with fail
  refine KF.out.mono ?_
  rintro e w3 ⟨fw, rfl, hb3⟩
  have HB3 := hid (HB2.out.trans (hb3.mono HB2.out.size))
  have HN3 := hid ((hb3.block _ (Array.getElem?_eq_some_iff.1 HN2.out).1).trans HN2.out)
  clear hb3 KF c0 c1 c2 c3 c4
  cases fw
  · go_wp2_with fail
    go_ret
    exact ⟨rfl, HB3.out⟩
  have c0 : w3.cell? ⟨w.heap.size, 0, none⟩ = some (tv) := Lib.cell_of_heap HN3.out 0
  have c1 : w3.cell? ⟨w.heap.size, 1, none⟩ = some (ov) := Lib.cell_of_heap HN3.out 1
  have c2 : w3.cell? ⟨w.heap.size, 2, none⟩ = some (sv) := Lib.cell_of_heap HN3.out 2
  have c3 : w3.cell? ⟨w.heap.size, 3, none⟩ = some (pv) := Lib.cell_of_heap HN3.out 3
  have c4 : w3.cell? ⟨w.heap.size, 4, none⟩ = some (.int .i64 G.start) := Lib.cell_of_heap HN3.out 4
  have KB := hid (Build_any (HGr.out.below HB3.out) (HT.out.on (HB3.out.mono hBt)) (Nat.le_trans hBt HB3.out.size))
  go_wp2_with fail
  refine KB.out.mono ?_
  rintro e w4 ⟨hb4, hcase⟩
  have HB4 := hid (HB3.out.trans (hb4.mono HB3.out.size))
  have HN4 := hid ((hb4.block _ (Array.getElem?_eq_some_iff.1 HN3.out).1).trans HN3.out)
  clear hb4 KB c0 c1 c2 c3 c4
  have hcase2 : (∃ er : Int, (er = 1 ∨ er = 4) ∧ e = .returned (.tuple #[.agg #[.slice none 0 0, .slice none 0 0], .int .i64 er])) ∨ (validB G = true ∧ ∃ n, BuiltOk G n ∧ ∃ av, e = .returned (.tuple #[av, .int .i64 0]) ∧ AutAt w4 av (iterB G n).ker (iterB G n).nx) := by
    rcases hcase with ⟨_, h2⟩ | ⟨hv, n, h2 | ⟨h2, h3⟩⟩
    · exact .inl ⟨1, .inl rfl, h2⟩
    · exact .inl ⟨4, .inr rfl, h2.2⟩
    · exact .inr ⟨hv, n, h2, h3⟩
  clear hcase
  rcases hcase2 with ⟨er, her, rfl⟩ | ⟨hval, n, hok, av, rfl, hav⟩
  · obtain ⟨wA, eA⟩ : ∃ wA, w4.alloc (.cells #[.slice none 0 0, .slice none 0 0] 49) = wA := ⟨_, rfl⟩
    have nA : wA.heap[w4.heap.size]? = some (.cells #[.slice none 0 0, .slice none 0 0] 49 (0, 0)) := by rw [← eA]; exact new_block _ _
    have a0 : wA.cell? ⟨w4.heap.size, 0, none⟩ = some (.slice none 0 0) := Lib.cell_of_heap nA 0
    have g0 := Lib.frozen_of_heap nA 0
    obtain ⟨wb, eb⟩ : ∃ wb, wA.setCell ⟨w4.heap.size, 0, none⟩ (.slice none 0 0) = wb := ⟨_, rfl⟩
    have nb : wb.heap[w4.heap.size]? = some (.cells #[.slice none 0 0, .slice none 0 0] 49 (0, 0)) := by rw [← eb]; exact heap_setCell_same _ _ 0 _ 49 _ nA
    have a1 : wb.cell? ⟨w4.heap.size, 1, none⟩ = some (.slice none 0 0) := Lib.cell_of_heap nb 1
    have g1 := Lib.frozen_of_heap nb 1
    obtain ⟨wc, ec⟩ : ∃ wc, wb.setCell ⟨w4.heap.size, 1, none⟩ (.slice none 0 0) = wc := ⟨_, rfl⟩
    have HBA := hid (show Below w.heap.size w wc from by
      rw [← ec, ← eb, ← eA]
      exact ((HB4.out.alloc HB4.out.size _).setCell HB4.out.size _).setCell HB4.out.size _)
    clear nA nb
    rcases her with rfl | rfl
    · go_wp2_with fail
      go_ret
      exact ⟨rfl, HBA.out⟩
    · go_wp2_with fail
      go_ret
      exact ⟨rfl, HBA.out⟩
  have HVAL := hid hval
  have HOK := hid hok
  have HAV := hid hav
  obtain ⟨hI, hat, hkl⟩ := hok.inv
  have hnl := (X14.iterB_at G n).2
  have HGS := hid (fun (i : Nat) (hi : i < n) => go_step hval hok hi)
  have HNX := hid (NxOk.built hok)
  have HKLEN := hid (X14.iter_len hval n)
  generalize (iterB G n).ker = KER at *
  generalize (iterB G n).nx = NX at *
  obtain ⟨kv, nv, rfl, hkv, hnv⟩ := hav
  obtain ⟨ko, kc, rfl, hk63⟩ := hkv.len
  obtain ⟨no, nc, rfl, _⟩ := hnv.len
  have HKV := hid hkv
  have HHK := hid hkl
  have HHN := hid hnl
  rw [hkl] at HAV hk63 ⊢
  rw [hnl] at HAV ⊢
  obtain ⟨wA, eA⟩ : ∃ wA, w4.alloc (.cells #[.slice ko n kc, .slice no n nc] 49) = wA := ⟨_, rfl⟩
  have hbA : Below w4.heap.size w4 wA := by rw [← eA]; exact (Below.refl _ _).alloc (Nat.le_refl _) _
  have nA : wA.heap[w4.heap.size]? = some (.cells #[.slice ko n kc, .slice no n nc] 49 (0, 0)) := by rw [← eA]; exact new_block _ _
  have a0 : wA.cell? ⟨w4.heap.size, 0, none⟩ = some (.slice ko n kc) := Lib.cell_of_heap nA 0
  have HBA := hid (HB4.out.trans (hbA.mono HB4.out.size))
  have HNA := hid ((hbA.block _ (Array.getElem?_eq_some_iff.1 HN4.out).1).trans HN4.out)
  have HAA := hid nA
  have HAVA := hid (HAV.out.below hbA)
  have HW4A := hid hbA
  have HAwA := hid (Below.refl wA.heap.size wA)
  have HwA := HBA
  clear hbA nA hkv hnv hval hok hI hat hkl hnl
  by_cases hr : 0 ≤ at_ ∧ at_ < (n : Int)
  case neg =>
    by_cases ha0 : at_ < 0
    · have z0 : decide (at_ < 0) = true := decide_eq_true ha0
      clear hr
      go_wp2_with fail
      go_ret
      exact ⟨rfl, HBA.out⟩
    · have z0 : decide (at_ < 0) = false := decide_eq_false ha0
      have z1 : (n : Int) ≤ at_ := by omega
      clear hr
      go_wp2_with fail
      go_ret
      exact ⟨rfl, HBA.out⟩
  obtain ⟨i, rfl⟩ : ∃ i : Nat, at_ = (i : Int) := ⟨at_.toNat, by omega⟩
  have hin : i < n := by omega
  have z0 : decide ((i : Int) < 0) = false := decide_eq_false (by omega)
  have z1 : ¬ (n : Int) ≤ (i : Int) := by omega
  have z2 : decide (n ≤ i) = false := decide_eq_false (by omega)
  have i0 : (0 : Int) ≤ (i : Int) := by omega
  have i1 : (i : Int) < (n : Int) := by omega
  clear hr
  obtain ⟨X, hX⟩ : ∃ X, KER.getD i [] = X := ⟨_, rfl⟩
  have hgs := HGS.out i hin s
  rw [hX] at hgs
  have HGO := hid hgs
  have hXl : X.length ≤ 1573 := by
    refine HKLEN.out X ?_
    rw [← hX, List.getD_eq_getElem?_getD, List.getElem?_eq_getElem (by rw [HHK.out]; exact hin)]
    exact List.getElem_mem _
  obtain ⟨kb, kf, u, rfl, u1, u2⟩ := HKV.out.at_ (k := i) (by rw [HHK.out]; exact hin)
  rw [hX] at u2
  have HU2 := hid u2
  have HU1 := hid u1
  clear hgs hX u1 u2
  obtain ⟨we, ewe⟩ : ∃ we, wA.drew = we := ⟨_, rfl⟩
  have hbe : Below wA.heap.size wA we := by rw [← ewe]; exact (Below.refl _ _).drew
  have HBe := hid (HwA.out.trans (hbe.mono HwA.out.size))
  have HAe := hid (Below.trans (HAwA.out) (hbe.mono (HAwA.out.size)))
  have HS := hid (show ∀ w', Below we.heap.size we w' → w'.cell? ⟨w.heap.size, 0, none⟩ = some (tv) ∧ w'.cell? ⟨w.heap.size, 1, none⟩ = some (ov) ∧ w'.cell? ⟨w.heap.size, 2, none⟩ = some (sv) ∧ w'.cell? ⟨w.heap.size, 3, none⟩ = some (pv) ∧ w'.cell? ⟨w.heap.size, 4, none⟩ = some (.int .i64 G.start) ∧ w'.cell? ⟨w4.heap.size, 0, none⟩ = some (.slice (some ⟨kb, kf, none⟩) n kc) ∧ w'.cell? ⟨kb, kf + i, none⟩ = some u from fun w' hC => by
    have hh := HAe.out.trans (hC.mono HAe.out.size)
    have nG := (hh.block _ (Array.getElem?_eq_some_iff.1 HNA.out).1).trans HNA.out
    have nA := (hh.block _ (Array.getElem?_eq_some_iff.1 HAA.out).1).trans HAA.out
    have hh4 := HW4A.out.trans (hh.mono HW4A.out.size)
    exact ⟨Lib.cell_of_heap nG 0, Lib.cell_of_heap nG 1, Lib.cell_of_heap nG 2, Lib.cell_of_heap nG 3, Lib.cell_of_heap nG 4, Lib.cell_of_heap nA 0, cell_below hh4 HU1.out⟩)
  have HH0 := HS.out we (Below.refl _ _)
  have HDe := hid hbe
  clear hbe
  go_wp2_with fail
  refine region_T 7 (fun w' => w'.cell? ⟨w.heap.size, 0, none⟩ = some (tv) ∧ w'.cell? ⟨w.heap.size, 1, none⟩ = some (ov) ∧ w'.cell? ⟨w.heap.size, 2, none⟩ = some (sv) ∧ w'.cell? ⟨w.heap.size, 3, none⟩ = some (pv) ∧ w'.cell? ⟨w.heap.size, 4, none⟩ = some (.int .i64 G.start) ∧ w'.cell? ⟨w4.heap.size, 0, none⟩ = some (.slice (some ⟨kb, kf, none⟩) n kc) ∧ w'.cell? ⟨kb, kf + i, none⟩ = some u) (by kernel_rfl) (by rw [ewe]; exact HH0) (fun inv hHeld => ?_)
  rw [ewe]
  clear hHeld ewe
  refine anyT_take (i := 0) (oi := { dst := some 42, op := Go.Op.load 27 (Go.Operand.tmp 3), type := 27, pos := "law.go:192", after := #[], guard := none }) (v := ?_) rfl (by kernel_rfl) (by kernel_rfl) (by kernel_rfl) (by decide) (by decide) (by kernel_rfl) (by kernel_rfl) (fun _ _ _ h => h) (Or.inl ⟨by rfl, ?_⟩) HH0 inv (fun inv => ?_)
  rotate_left
  · intro w hSw
    try dsimp only at hSw
    go_simp
    try with_reducible rfl
  simp only [Act.put, List.setIfInBounds_toArray, List.set_cons_zero, List.set_cons_succ]
  refine anyT_take (i := 1) (oi := { dst := some 43, op := Go.Op.fieldAddr 49 (Go.Operand.tmp 9) 0, type := 0, pos := "law.go:192", after := #[], guard := none }) (v := ?_) rfl (by kernel_rfl) (by kernel_rfl) (by kernel_rfl) (by decide) (by decide) (by kernel_rfl) (by kernel_rfl) (fun _ _ _ h => h) (Or.inl ⟨by rfl, ?_⟩) HH0 inv (fun inv => ?_)
  rotate_left
  · intro w hSw
    try dsimp only at hSw
    go_simp
    try with_reducible rfl
  simp only [Act.put, List.setIfInBounds_toArray, List.set_cons_zero, List.set_cons_succ]
  refine anyT_take (i := 2) (oi := { dst := some 44, op := Go.Op.load 46 (Go.Operand.tmp 43), type := 46, pos := "law.go:192", after := #[{ on := 1, ground := Go.Ground.data }], guard := none }) (v := ?_) rfl (by kernel_rfl) (by kernel_rfl) (by kernel_rfl) (by decide) (by decide) (by kernel_rfl) (by kernel_rfl) (fun _ _ _ h => h) (Or.inl ⟨by rfl, ?_⟩) HH0 inv (fun inv => ?_)
  rotate_left
  · intro w hSw
    try dsimp only at hSw
    go_simp
    try with_reducible rfl
  simp only [Act.put, List.setIfInBounds_toArray, List.set_cons_zero, List.set_cons_succ]
  refine anyT_take (i := 3) (oi := { dst := some 45, op := Go.Op.move (Go.Operand.tmp 1), type := 3, pos := "law.go:192", after := #[], guard := none }) (v := ?_) rfl (by kernel_rfl) (by kernel_rfl) (by kernel_rfl) (by decide) (by decide) (by kernel_rfl) (by kernel_rfl) (fun _ _ _ h => h) (Or.inl ⟨by rfl, ?_⟩) HH0 inv (fun inv => ?_)
  rotate_left
  · intro w hSw
    try dsimp only at hSw
    go_simp
    try with_reducible rfl
  simp only [Act.put, List.setIfInBounds_toArray, List.set_cons_zero, List.set_cons_succ]
  refine anyT_take (i := 4) (oi := { dst := some 46, op := Go.Op.indexAddr 46 (Go.Operand.tmp 44) (Go.Operand.tmp 45), type := 0, pos := "law.go:192", after := #[{ on := 2, ground := Go.Ground.data }, { on := 3, ground := Go.Ground.data }], guard := none }) (v := ?_) rfl (by kernel_rfl) (by kernel_rfl) (by kernel_rfl) (by decide) (by decide) (by kernel_rfl) (by kernel_rfl) (fun _ _ _ h => h) (Or.inl ⟨by rfl, ?_⟩) HH0 inv (fun inv => ?_)
  rotate_left
  · intro w hSw
    try dsimp only at hSw
    go_simp
    try with_reducible rfl
  simp only [Act.put, List.setIfInBounds_toArray, List.set_cons_zero, List.set_cons_succ]
  refine anyT_take (i := 5) (oi := { dst := some 47, op := Go.Op.load 28 (Go.Operand.tmp 46), type := 28, pos := "law.go:192", after := #[{ on := 4, ground := Go.Ground.data }], guard := none }) (v := ?_) rfl (by kernel_rfl) (by kernel_rfl) (by kernel_rfl) (by decide) (by decide) (by kernel_rfl) (by kernel_rfl) (fun _ _ _ h => h) (Or.inl ⟨by rfl, ?_⟩) HH0 inv (fun inv => ?_)
  rotate_left
  · intro w hSw
    try dsimp only at hSw
    go_simp
    try with_reducible rfl
  simp only [Act.put, List.setIfInBounds_toArray, List.set_cons_zero, List.set_cons_succ]
  refine anyT_next (i := 6) (o := { dst := some 48, op := Go.Op.call { callee := Go.Callee.value (Go.Operand.func 15), args := #[Go.Operand.tmp 42, Go.Operand.tmp 47], argTypes := #[27, 28] }, type := 28, pos := "law.go:192", after := #[{ on := 0, ground := Go.Ground.data }, { on := 5, ground := Go.Ground.data }], guard := none }) (by kernel_rfl) rfl (by decide) inv (fun inv K' hK => ?_)
  go_simp
  refine (Close_any (HGr.out.below HBe.out) (HU2.out.below (HW4A.out.trans (HAe.out.mono HW4A.out.size))) (by omega)).mono ?_
  rintro e w5 ⟨cv, rfl, hcv, hb5⟩
  have HCV := hid hcv
  obtain ⟨co, cc, rfl, _⟩ := hcv.len
  have hcl := X14.closeV_len G X
  have HB5 := hid hb5
  have HH1 := HS.out w5 hb5
  refine hK.out _ _ HH1 ?_
  clear hK K' HH0 hcv hb5
  try simp only [Act.put, List.setIfInBounds_toArray, List.set_cons_zero, List.set_cons_succ]
  refine anyT_one (i := 7) (o := { dst := some 11, op := Go.Op.assign (Go.Operand.tmp 48), type := 28, pos := "law.go:192", after := #[{ on := 6, ground := Go.Ground.data }, { on := 6, ground := Go.Ground.chain }, { on := 0, ground := Go.Ground.phase }, { on := 1, ground := Go.Ground.phase }, { on := 2, ground := Go.Ground.phase }, { on := 3, ground := Go.Ground.phase }, { on := 4, ground := Go.Ground.phase }, { on := 5, ground := Go.Ground.phase }, { on := 6, ground := Go.Ground.phase }], guard := none }) (by kernel_rfl) rfl (fun K' hK => ?_)
  go_simp
  refine hK.out _ _ (fun h => absurd h (by decide)) ?_
  clear hK K'
  try simp only [Act.put, List.setIfInBounds_toArray, List.set_cons_zero, List.set_cons_succ]
  refine anyT_done (by kernel_rfl) ?_ _
  have Hw5 := hid (HBe.out.trans (HB5.out.mono HBe.out.size))
  have HAw5 := hid (HAe.out.trans (HB5.out.mono HAe.out.size))
  clear HS HB5 HBe HAe HH1 HDe
  obtain ⟨we, ewe⟩ : ∃ we, w5.drew = we := ⟨_, rfl⟩
  have hbe : Below w5.heap.size w5 we := by rw [← ewe]; exact (Below.refl _ _).drew
  have HBe := hid (Hw5.out.trans (hbe.mono Hw5.out.size))
  have HAe := hid (Below.trans (HAw5.out) (hbe.mono (HAw5.out.size)))
  have HS := hid (show ∀ w', Below we.heap.size we w' → w'.cell? ⟨w.heap.size, 0, none⟩ = some (tv) ∧ w'.cell? ⟨w.heap.size, 1, none⟩ = some (ov) ∧ w'.cell? ⟨w.heap.size, 2, none⟩ = some (sv) ∧ w'.cell? ⟨w.heap.size, 3, none⟩ = some (pv) ∧ w'.cell? ⟨w.heap.size, 4, none⟩ = some (.int .i64 G.start) ∧ w'.cell? ⟨w4.heap.size, 0, none⟩ = some (.slice (some ⟨kb, kf, none⟩) n kc) ∧ w'.cell? ⟨kb, kf + i, none⟩ = some u from fun w' hC => by
    have hh := HAe.out.trans (hC.mono HAe.out.size)
    have nG := (hh.block _ (Array.getElem?_eq_some_iff.1 HNA.out).1).trans HNA.out
    have nA := (hh.block _ (Array.getElem?_eq_some_iff.1 HAA.out).1).trans HAA.out
    have hh4 := HW4A.out.trans (hh.mono HW4A.out.size)
    exact ⟨Lib.cell_of_heap nG 0, Lib.cell_of_heap nG 1, Lib.cell_of_heap nG 2, Lib.cell_of_heap nG 3, Lib.cell_of_heap nG 4, Lib.cell_of_heap nA 0, cell_below hh4 HU1.out⟩)
  have HH0 := HS.out we (Below.refl _ _)
  have HDe := hid hbe
  clear hbe
  go_wp2_with fail
  refine region_T 8 (fun w' => w'.cell? ⟨w.heap.size, 0, none⟩ = some (tv) ∧ w'.cell? ⟨w.heap.size, 1, none⟩ = some (ov) ∧ w'.cell? ⟨w.heap.size, 2, none⟩ = some (sv) ∧ w'.cell? ⟨w.heap.size, 3, none⟩ = some (pv) ∧ w'.cell? ⟨w.heap.size, 4, none⟩ = some (.int .i64 G.start) ∧ w'.cell? ⟨w4.heap.size, 0, none⟩ = some (.slice (some ⟨kb, kf, none⟩) n kc) ∧ w'.cell? ⟨kb, kf + i, none⟩ = some u) (by kernel_rfl) (by rw [ewe]; exact HH0) (fun inv hHeld => ?_)
  rw [ewe]
  clear hHeld ewe
  refine anyT_take (i := 0) (oi := { dst := some 49, op := Go.Op.load 27 (Go.Operand.tmp 3), type := 27, pos := "law.go:193", after := #[], guard := none }) (v := ?_) rfl (by kernel_rfl) (by kernel_rfl) (by kernel_rfl) (by decide) (by decide) (by kernel_rfl) (by kernel_rfl) (fun _ _ _ h => h) (Or.inl ⟨by rfl, ?_⟩) HH0 inv (fun inv => ?_)
  rotate_left
  · intro w hSw
    try dsimp only at hSw
    go_simp
    try with_reducible rfl
  simp only [Act.put, List.setIfInBounds_toArray, List.set_cons_zero, List.set_cons_succ]
  refine anyT_take (i := 1) (oi := { dst := some 50, op := Go.Op.fieldAddr 49 (Go.Operand.tmp 9) 0, type := 0, pos := "law.go:193", after := #[], guard := none }) (v := ?_) rfl (by kernel_rfl) (by kernel_rfl) (by kernel_rfl) (by decide) (by decide) (by kernel_rfl) (by kernel_rfl) (fun _ _ _ h => h) (Or.inl ⟨by rfl, ?_⟩) HH0 inv (fun inv => ?_)
  rotate_left
  · intro w hSw
    try dsimp only at hSw
    go_simp
    try with_reducible rfl
  simp only [Act.put, List.setIfInBounds_toArray, List.set_cons_zero, List.set_cons_succ]
  refine anyT_take (i := 2) (oi := { dst := some 51, op := Go.Op.load 46 (Go.Operand.tmp 50), type := 46, pos := "law.go:193", after := #[{ on := 1, ground := Go.Ground.data }], guard := none }) (v := ?_) rfl (by kernel_rfl) (by kernel_rfl) (by kernel_rfl) (by decide) (by decide) (by kernel_rfl) (by kernel_rfl) (fun _ _ _ h => h) (Or.inl ⟨by rfl, ?_⟩) HH0 inv (fun inv => ?_)
  rotate_left
  · intro w hSw
    try dsimp only at hSw
    go_simp
    try with_reducible rfl
  simp only [Act.put, List.setIfInBounds_toArray, List.set_cons_zero, List.set_cons_succ]
  refine anyT_take (i := 3) (oi := { dst := some 52, op := Go.Op.move (Go.Operand.tmp 1), type := 3, pos := "law.go:193", after := #[], guard := none }) (v := ?_) rfl (by kernel_rfl) (by kernel_rfl) (by kernel_rfl) (by decide) (by decide) (by kernel_rfl) (by kernel_rfl) (fun _ _ _ h => h) (Or.inl ⟨by rfl, ?_⟩) HH0 inv (fun inv => ?_)
  rotate_left
  · intro w hSw
    try dsimp only at hSw
    go_simp
    try with_reducible rfl
  simp only [Act.put, List.setIfInBounds_toArray, List.set_cons_zero, List.set_cons_succ]
  refine anyT_take (i := 4) (oi := { dst := some 53, op := Go.Op.indexAddr 46 (Go.Operand.tmp 51) (Go.Operand.tmp 52), type := 0, pos := "law.go:193", after := #[{ on := 2, ground := Go.Ground.data }, { on := 3, ground := Go.Ground.data }], guard := none }) (v := ?_) rfl (by kernel_rfl) (by kernel_rfl) (by kernel_rfl) (by decide) (by decide) (by kernel_rfl) (by kernel_rfl) (fun _ _ _ h => h) (Or.inl ⟨by rfl, ?_⟩) HH0 inv (fun inv => ?_)
  rotate_left
  · intro w hSw
    try dsimp only at hSw
    go_simp
    try with_reducible rfl
  simp only [Act.put, List.setIfInBounds_toArray, List.set_cons_zero, List.set_cons_succ]
  refine anyT_take (i := 5) (oi := { dst := some 54, op := Go.Op.load 28 (Go.Operand.tmp 53), type := 28, pos := "law.go:193", after := #[{ on := 4, ground := Go.Ground.data }], guard := none }) (v := ?_) rfl (by kernel_rfl) (by kernel_rfl) (by kernel_rfl) (by decide) (by decide) (by kernel_rfl) (by kernel_rfl) (fun _ _ _ h => h) (Or.inl ⟨by rfl, ?_⟩) HH0 inv (fun inv => ?_)
  rotate_left
  · intro w hSw
    try dsimp only at hSw
    go_simp
    try with_reducible rfl
  simp only [Act.put, List.setIfInBounds_toArray, List.set_cons_zero, List.set_cons_succ]
  refine anyT_take (i := 6) (oi := { dst := some 55, op := Go.Op.move (Go.Operand.tmp 2), type := 29, pos := "law.go:193", after := #[], guard := none }) (v := ?_) rfl (by kernel_rfl) (by kernel_rfl) (by kernel_rfl) (by decide) (by decide) (by kernel_rfl) (by kernel_rfl) (fun _ _ _ h => h) (Or.inl ⟨by rfl, ?_⟩) HH0 inv (fun inv => ?_)
  rotate_left
  · intro w hSw
    try dsimp only at hSw
    go_simp
    try with_reducible rfl
  simp only [Act.put, List.setIfInBounds_toArray, List.set_cons_zero, List.set_cons_succ]
  refine anyT_next (i := 7) (o := { dst := some 56, op := Go.Op.call { callee := Go.Callee.value (Go.Operand.func 17), args := #[Go.Operand.tmp 49, Go.Operand.tmp 54, Go.Operand.tmp 55], argTypes := #[27, 28, 29] }, type := 28, pos := "law.go:193", after := #[{ on := 0, ground := Go.Ground.data }, { on := 5, ground := Go.Ground.data }, { on := 6, ground := Go.Ground.data }], guard := none }) (by kernel_rfl) rfl (by decide) inv (fun inv K' hK => ?_)
  go_simp
  refine (Step_any (HGr.out.below HBe.out) (HU2.out.below (HW4A.out.trans (HAe.out.mono HW4A.out.size))) (by omega) s s0 s1).mono ?_
  rintro e w6 ⟨xv, rfl, hxv, hb6⟩
  have HXV := hid hxv
  obtain ⟨xo, xc, rfl, _⟩ := hxv.len
  have hsl := X14.stepV_len G X s
  have HB6 := hid hb6
  have HH1 := HS.out w6 hb6
  refine hK.out _ _ HH1 ?_
  clear hK K' HH0 hxv hb6
  try simp only [Act.put, List.setIfInBounds_toArray, List.set_cons_zero, List.set_cons_succ]
  refine anyT_one (i := 8) (o := { dst := some 12, op := Go.Op.assign (Go.Operand.tmp 56), type := 28, pos := "law.go:193", after := #[{ on := 7, ground := Go.Ground.data }, { on := 7, ground := Go.Ground.chain }, { on := 0, ground := Go.Ground.phase }, { on := 1, ground := Go.Ground.phase }, { on := 2, ground := Go.Ground.phase }, { on := 3, ground := Go.Ground.phase }, { on := 4, ground := Go.Ground.phase }, { on := 5, ground := Go.Ground.phase }, { on := 6, ground := Go.Ground.phase }, { on := 7, ground := Go.Ground.phase }], guard := none }) (by kernel_rfl) rfl (fun K' hK => ?_)
  go_simp
  refine hK.out _ _ (fun h => absurd h (by decide)) ?_
  clear hK K'
  try simp only [Act.put, List.setIfInBounds_toArray, List.set_cons_zero, List.set_cons_succ]
  refine anyT_done (by kernel_rfl) ?_ _
  have Hw6 := hid (HBe.out.trans (HB6.out.mono HBe.out.size))
  have HAw6 := hid (HAe.out.trans (HB6.out.mono HAe.out.size))
  have HW56 := hid (HDe.out.trans (HB6.out.mono HDe.out.size))
  clear HS HB6 HBe HAe HH1 HDe
  have HN6 := hid ((HAw6.out.block _ (Array.getElem?_eq_some_iff.1 HNA.out).1).trans HNA.out)
  have HA6 := hid ((HAw6.out.block _ (Array.getElem?_eq_some_iff.1 HAA.out).1).trans HAA.out)
  have HCV6 := hid (HCV.out.below HW56.out)
  have KS := Step_any (HGr.out.below Hw6.out) HCV6.out (by omega) s s0 s1
  rw [stepV_again] at KS
  have KS := hid KS
  have c0 : w6.cell? ⟨w.heap.size, 0, none⟩ = some (tv) := Lib.cell_of_heap HN6.out 0
  have c1 : w6.cell? ⟨w.heap.size, 1, none⟩ = some (ov) := Lib.cell_of_heap HN6.out 1
  have c2 : w6.cell? ⟨w.heap.size, 2, none⟩ = some (sv) := Lib.cell_of_heap HN6.out 2
  have c3 : w6.cell? ⟨w.heap.size, 3, none⟩ = some (pv) := Lib.cell_of_heap HN6.out 3
  have c4 : w6.cell? ⟨w.heap.size, 4, none⟩ = some (.int .i64 G.start) := Lib.cell_of_heap HN6.out 4
  clear HCV
  go_wp2_with fail
  refine KS.out.mono ?_
  rintro e w7 ⟨yv, rfl, hyv, hb7⟩
  have HYV := hid hyv
  obtain ⟨yo, yc, rfl, _⟩ := hyv.len
  have Hw7 := hid (Hw6.out.trans (hb7.mono Hw6.out.size))
  have HAw7 := hid (HAw6.out.trans (hb7.mono HAw6.out.size))
  have HN7 := hid ((hb7.block _ (Array.getElem?_eq_some_iff.1 HN6.out).1).trans HN6.out)
  have HA7 := hid ((hb7.block _ (Array.getElem?_eq_some_iff.1 HA6.out).1).trans HA6.out)
  have HXV7 := hid (HXV.out.below hb7)
  have KG := hid (Go_any (HGr.out.below Hw7.out) (HAVA.out.below HAw7.out) HNX.out (i : Int) s s0 s1)
  clear KS hyv hb7 c0 c1 c2 c3 c4
  have c0 : w7.cell? ⟨w.heap.size, 0, none⟩ = some (tv) := Lib.cell_of_heap HN7.out 0
  have c1 : w7.cell? ⟨w.heap.size, 1, none⟩ = some (ov) := Lib.cell_of_heap HN7.out 1
  have c2 : w7.cell? ⟨w.heap.size, 2, none⟩ = some (sv) := Lib.cell_of_heap HN7.out 2
  have c3 : w7.cell? ⟨w.heap.size, 3, none⟩ = some (pv) := Lib.cell_of_heap HN7.out 3
  have c4 : w7.cell? ⟨w.heap.size, 4, none⟩ = some (.int .i64 G.start) := Lib.cell_of_heap HN7.out 4
  have a0 : w7.cell? ⟨w4.heap.size, 0, none⟩ = some (.slice (some ⟨kb, kf, none⟩) n kc) := Lib.cell_of_heap HA7.out 0
  have a1 : w7.cell? ⟨w4.heap.size, 1, none⟩ = some (.slice no n nc) := Lib.cell_of_heap HA7.out 1
  go_wp2_with fail
  refine KG.out.mono ?_
  rintro e w8 ⟨rfl, hb8⟩
  have Hw8 := hid (Hw7.out.trans (hb8.mono Hw7.out.size))
  have HAw8 := hid (HAw7.out.trans (hb8.mono HAw7.out.size))
  have HXV8 := hid (HXV7.out.below hb8)
  have HYV8 := hid (HYV.out.below hb8)
  obtain ⟨ST, hST⟩ : ∃ ST, stepV G X s = ST := ⟨_, rfl⟩
  have hgo := HGO.out
  obtain ⟨gx, hgx⟩ : ∃ gx, goX G NX (i : Int) s = gx := ⟨_, rfl⟩
  rw [hST, hgx] at hgo
  rw [hST] at HXV8 HYV8 hsl ⊢
  rw [hgx]
  have HGO2 := hid hgo
  clear hb8 KG c0 c1 c2 c3 c4 a0 a1 hgo hgx hST
  have KR := hid (LRow_any HXV8.out (by omega))
  go_wp2_with fail
  refine KR.out.mono ?_
  rintro e w9 ⟨ev, rfl, hev, hb9⟩
  have Hw9 := hid (Hw8.out.trans (hb9.mono Hw8.out.size))
  have HAw9 := hid (HAw8.out.trans (hb9.mono HAw8.out.size))
  have HXV9 := hid (HXV8.out.below hb9)
  have HEV := hid (own_items hev (by omega))
  obtain ⟨eo, ec, rfl⟩ := own_shape hev
  have KR2 := hid (LRow_any (HYV8.out.below hb9) (by omega))
  clear KR hev hb9
  go_wp2_with fail
  refine KR2.out.mono ?_
  rintro e w10 ⟨fv, rfl, hfv, hb10⟩
  have Hw10 := hid (Hw9.out.trans (hb10.mono Hw9.out.size))
  have HAw10 := hid (HAw9.out.trans (hb10.mono HAw9.out.size))
  have HXV10 := hid (HXV9.out.below hb10)
  have HFV := hid (own_items hfv (by omega))
  obtain ⟨fo, fc, rfl⟩ := own_shape hfv
  have KQ := hid (RRow_any (HEV.out.below hb10) HFV.out)
  clear KR2 hfv hb10
  go_wp2_with fail
  refine KQ.out.mono ?_
  rintro e w11 ⟨e9, hb11⟩
  obtain rfl : e = .returned (.bool true) := by simpa using e9
  have Hw11 := hid (Hw10.out.trans (hb11.mono Hw10.out.size))
  have HAw11 := hid (HAw10.out.trans (hb11.mono HAw10.out.size))
  have HXV11 := hid (HXV10.out.below hb11)
  clear KQ hb11 e9
  rcases HGO2.out with ⟨rfl, rfl⟩ | ⟨q, rfl, q1, q2, q3⟩
  · go_wp2_with fail
    go_ret
    exact ⟨rfl, Hw11.out⟩
  have y0 : decide ((q : Int) < 0) = false := decide_eq_false (by omega)
  have y1 : (q : Int) < (n : Int) := by omega
  have y2 : (0 : Int) ≤ (q : Int) := by omega
  obtain ⟨kb2, kf2, u', elo, v1, v2⟩ := HKV.out.at_ (k := q) (by rw [HHK.out]; exact q2)
  injection elo with elo
  injection elo with elb elo
  subst elb
  subst elo
  rw [X14.getD_get q3] at v2
  have HV2 := hid v2
  have HV1 := hid v1
  obtain ⟨uo, uc, hul, _⟩ := v2.len
  subst hul
  clear v1 v2 q3 HGO HGO2
  obtain ⟨we, ewe⟩ : ∃ we, w11.drew = we := ⟨_, rfl⟩
  have hbe : Below w11.heap.size w11 we := by rw [← ewe]; exact (Below.refl _ _).drew
  have HBe := hid (Hw11.out.trans (hbe.mono Hw11.out.size))
  have HAe := hid (HAw11.out.trans (hbe.mono HAw11.out.size))
  have HXe := hid (HXV11.out.below hbe)
  have HS := hid (show ∀ w', Below we.heap.size we w' → w'.cell? ⟨w4.heap.size, 0, none⟩ = some (.slice (some ⟨kb, kf, none⟩) n kc) ∧ w'.cell? ⟨kb, kf + q, none⟩ = some (.slice uo ST.length uc) from fun w' hC => by
    have hh := HAe.out.trans (hC.mono HAe.out.size)
    have nA := (hh.block _ (Array.getElem?_eq_some_iff.1 HAA.out).1).trans HAA.out
    exact ⟨Lib.cell_of_heap nA 0, cell_below (HW4A.out.trans (hh.mono HW4A.out.size)) HV1.out⟩)
  have HH0 := HS.out we (Below.refl _ _)
  have HVe := hid (HV2.out.below (HW4A.out.trans (HAe.out.mono HW4A.out.size)))
  clear hbe
  go_wp2_with fail
  refine region_T 12 (fun w' => w'.cell? ⟨w4.heap.size, 0, none⟩ = some (.slice (some ⟨kb, kf, none⟩) n kc) ∧ w'.cell? ⟨kb, kf + q, none⟩ = some (.slice uo ST.length uc)) (by kernel_rfl) (by rw [ewe]; exact HH0) (fun inv hHeld => ?_)
  rw [ewe]
  clear hHeld ewe
  refine anyT_take (i := 0) (oi := { dst := some 80, op := Go.Op.move (Go.Operand.tmp 7), type := 4, pos := "law.go:202", after := #[], guard := none }) (v := ?_) rfl (by kernel_rfl) (by kernel_rfl) (by kernel_rfl) (by decide) (by decide) (by kernel_rfl) (by kernel_rfl) (fun _ _ _ h => h) (Or.inl ⟨by rfl, ?_⟩) HH0 inv (fun inv => ?_)
  rotate_left
  · intro w hSw
    try dsimp only at hSw
    go_simp
    try with_reducible rfl
  simp only [Act.put, List.setIfInBounds_toArray, List.set_cons_zero, List.set_cons_succ]
  refine anyT_take (i := 1) (oi := { dst := some 81, op := Go.Op.move (Go.Operand.tmp 80), type := 4, pos := "law.go:202", after := #[{ on := 0, ground := Go.Ground.data }], guard := none }) (v := ?_) rfl (by kernel_rfl) (by kernel_rfl) (by kernel_rfl) (by decide) (by decide) (by kernel_rfl) (by kernel_rfl) (fun _ _ _ h => h) (Or.inl ⟨by rfl, ?_⟩) HH0 inv (fun inv => ?_)
  rotate_left
  · intro w hSw
    try dsimp only at hSw
    go_simp
    try with_reducible rfl
  simp only [Act.put, List.setIfInBounds_toArray, List.set_cons_zero, List.set_cons_succ]
  refine anyT_take (i := 2) (oi := { dst := some 82, op := Go.Op.move (Go.Operand.tmp 12), type := 28, pos := "law.go:202", after := #[{ on := 1, ground := Go.Ground.guard }], guard := some (1, true) }) (v := ?_) rfl (by kernel_rfl) (by kernel_rfl) (by kernel_rfl) (by decide) (by decide) (by kernel_rfl) (by kernel_rfl) (fun _ _ _ h => h) (Or.inl ⟨by rfl, ?_⟩) HH0 inv (fun inv => ?_)
  rotate_left
  · intro w hSw
    try dsimp only at hSw
    go_simp
    try with_reducible rfl
  simp only [Act.put, List.setIfInBounds_toArray, List.set_cons_zero, List.set_cons_succ]
  refine anyT_take (i := 4) (oi := { dst := some 84, op := Go.Op.fieldAddr 49 (Go.Operand.tmp 9) 0, type := 0, pos := "law.go:202", after := #[{ on := 1, ground := Go.Ground.guard }], guard := some (1, true) }) (v := ?_) rfl (by kernel_rfl) (by kernel_rfl) (by kernel_rfl) (by decide) (by decide) (by kernel_rfl) (by kernel_rfl) (fun _ _ _ h => h) (Or.inl ⟨by rfl, ?_⟩) HH0 inv (fun inv => ?_)
  rotate_left
  · intro w hSw
    try dsimp only at hSw
    go_simp
    try with_reducible rfl
  simp only [Act.put, List.setIfInBounds_toArray, List.set_cons_zero, List.set_cons_succ]
  refine anyT_take (i := 5) (oi := { dst := some 85, op := Go.Op.load 46 (Go.Operand.tmp 84), type := 46, pos := "law.go:202", after := #[{ on := 4, ground := Go.Ground.data }, { on := 1, ground := Go.Ground.guard }], guard := some (1, true) }) (v := ?_) rfl (by kernel_rfl) (by kernel_rfl) (by kernel_rfl) (by decide) (by decide) (by kernel_rfl) (by kernel_rfl) (fun _ _ _ h => h) (Or.inl ⟨by rfl, ?_⟩) HH0 inv (fun inv => ?_)
  rotate_left
  · intro w hSw
    try dsimp only at hSw
    go_simp
    try with_reducible rfl
  simp only [Act.put, List.setIfInBounds_toArray, List.set_cons_zero, List.set_cons_succ]
  refine anyT_take (i := 6) (oi := { dst := some 86, op := Go.Op.move (Go.Operand.tmp 14), type := 3, pos := "law.go:202", after := #[{ on := 1, ground := Go.Ground.guard }], guard := some (1, true) }) (v := ?_) rfl (by kernel_rfl) (by kernel_rfl) (by kernel_rfl) (by decide) (by decide) (by kernel_rfl) (by kernel_rfl) (fun _ _ _ h => h) (Or.inl ⟨by rfl, ?_⟩) HH0 inv (fun inv => ?_)
  rotate_left
  · intro w hSw
    try dsimp only at hSw
    go_simp
    try with_reducible rfl
  simp only [Act.put, List.setIfInBounds_toArray, List.set_cons_zero, List.set_cons_succ]
  refine anyT_take (i := 7) (oi := { dst := some 87, op := Go.Op.indexAddr 46 (Go.Operand.tmp 85) (Go.Operand.tmp 86), type := 0, pos := "law.go:202", after := #[{ on := 5, ground := Go.Ground.data }, { on := 6, ground := Go.Ground.data }, { on := 1, ground := Go.Ground.guard }], guard := some (1, true) }) (v := ?_) rfl (by kernel_rfl) (by kernel_rfl) (by kernel_rfl) (by decide) (by decide) (by kernel_rfl) (by kernel_rfl) (fun _ _ _ h => h) (Or.inl ⟨by rfl, ?_⟩) HH0 inv (fun inv => ?_)
  rotate_left
  · intro w hSw
    try dsimp only at hSw
    go_simp
    try with_reducible rfl
  simp only [Act.put, List.setIfInBounds_toArray, List.set_cons_zero, List.set_cons_succ]
  refine anyT_take (i := 8) (oi := { dst := some 88, op := Go.Op.load 28 (Go.Operand.tmp 87), type := 28, pos := "law.go:202", after := #[{ on := 7, ground := Go.Ground.data }, { on := 1, ground := Go.Ground.guard }], guard := some (1, true) }) (v := ?_) rfl (by kernel_rfl) (by kernel_rfl) (by kernel_rfl) (by decide) (by decide) (by kernel_rfl) (by kernel_rfl) (fun _ _ _ h => h) (Or.inl ⟨by rfl, ?_⟩) HH0 inv (fun inv => ?_)
  rotate_left
  · intro w hSw
    try dsimp only at hSw
    go_simp
    try with_reducible rfl
  simp only [Act.put, List.setIfInBounds_toArray, List.set_cons_zero, List.set_cons_succ]
  refine anyT_next (i := 3) (o := { dst := some 83, op := Go.Op.call { callee := Go.Callee.value (Go.Operand.func 11), args := #[Go.Operand.tmp 82], argTypes := #[28] }, type := 32, pos := "law.go:202", after := #[{ on := 2, ground := Go.Ground.data }, { on := 1, ground := Go.Ground.chain }, { on := 1, ground := Go.Ground.guard }], guard := some (1, true) }) (by kernel_rfl) rfl (by decide) inv (fun inv K' hK => ?_)
  go_simp
  refine (LRow_any HXe.out (by omega)).mono ?_
  rintro e wf ⟨pv1, rfl, hpv1, hbf⟩
  have HBf := hid hbf
  have HPV := hid (own_items hpv1 (by omega))
  obtain ⟨po, pc, rfl⟩ := own_shape hpv1
  have HH1 := HS.out wf HBf.out
  refine hK.out _ _ HH1 ?_
  clear hK K' HH0 hpv1 hbf
  try simp only [Act.put, List.setIfInBounds_toArray, List.set_cons_zero, List.set_cons_succ]
  refine anyT_next (i := 9) (o := { dst := some 89, op := Go.Op.call { callee := Go.Callee.value (Go.Operand.func 11), args := #[Go.Operand.tmp 88], argTypes := #[28] }, type := 32, pos := "law.go:202", after := #[{ on := 8, ground := Go.Ground.data }, { on := 3, ground := Go.Ground.chain }, { on := 1, ground := Go.Ground.guard }], guard := some (1, true) }) (by kernel_rfl) rfl (by decide) inv (fun inv K' hK => ?_)
  go_simp
  refine (LRow_any (HVe.out.below HBf.out) (by omega)).mono ?_
  rintro e wg ⟨pv2, rfl, hpv2, hbg⟩
  have HBg := hid (HBf.out.trans (hbg.mono HBf.out.size))
  have HPV2 := hid (own_items hpv2 (by omega))
  have HPV := hid (HPV.out.below hbg)
  obtain ⟨po2, pc2, rfl⟩ := own_shape hpv2
  have HH0 := HS.out wg HBg.out
  refine hK.out _ _ HH0 ?_
  clear hK K' HH1 hpv2 hbg
  try simp only [Act.put, List.setIfInBounds_toArray, List.set_cons_zero, List.set_cons_succ]
  refine anyT_next (i := 10) (o := { dst := some 90, op := Go.Op.call { callee := Go.Callee.value (Go.Operand.func 14), args := #[Go.Operand.tmp 83, Go.Operand.tmp 89], argTypes := #[32, 32] }, type := 4, pos := "law.go:202", after := #[{ on := 3, ground := Go.Ground.data }, { on := 9, ground := Go.Ground.data }, { on := 9, ground := Go.Ground.chain }, { on := 1, ground := Go.Ground.guard }], guard := some (1, true) }) (by kernel_rfl) rfl (by decide) inv (fun inv K' hK => ?_)
  go_simp
  refine (RRow_any HPV.out HPV2.out).mono ?_
  rintro e wh ⟨e9, hbh⟩
  obtain rfl : e = .returned (.bool true) := by simpa using e9
  have HBh := hid (HBg.out.trans (hbh.mono HBg.out.size))
  have HH1 := HS.out wh HBh.out
  refine hK.out _ _ HH1 ?_
  clear hK K' HH0 hbh e9
  try simp only [Act.put, List.setIfInBounds_toArray, List.set_cons_zero, List.set_cons_succ]
  refine anyT_take (i := 11) (oi := { dst := some 91, op := Go.Op.pick (Go.Operand.tmp 81) (Go.Operand.tmp 90) (Go.Operand.const (Go.Value.bool false)), type := 4, pos := "law.go:202", after := #[{ on := 1, ground := Go.Ground.data }, { on := 10, ground := Go.Ground.data }], guard := none }) (v := ?_) rfl (by kernel_rfl) (by kernel_rfl) (by kernel_rfl) (by decide) (by decide) (by kernel_rfl) (by kernel_rfl) (fun _ _ _ h => h) (Or.inl ⟨by rfl, ?_⟩) HH1 inv (fun inv => ?_)
  rotate_left
  · intro w hSw
    try dsimp only at hSw
    go_simp
    try with_reducible rfl
  simp only [Act.put, List.setIfInBounds_toArray, List.set_cons_zero, List.set_cons_succ]
  refine anyT_one (i := 12) (o := { dst := some 6, op := Go.Op.assign (Go.Operand.tmp 91), type := 4, pos := "law.go:202", after := #[{ on := 11, ground := Go.Ground.data }, { on := 10, ground := Go.Ground.chain }, { on := 0, ground := Go.Ground.phase }, { on := 1, ground := Go.Ground.phase }, { on := 2, ground := Go.Ground.phase }, { on := 3, ground := Go.Ground.phase }, { on := 4, ground := Go.Ground.phase }, { on := 5, ground := Go.Ground.phase }, { on := 6, ground := Go.Ground.phase }, { on := 7, ground := Go.Ground.phase }, { on := 8, ground := Go.Ground.phase }, { on := 9, ground := Go.Ground.phase }, { on := 10, ground := Go.Ground.phase }, { on := 11, ground := Go.Ground.phase }], guard := none }) (by kernel_rfl) rfl (fun K' hK => ?_)
  go_simp
  refine hK.out _ _ (fun h => absurd h (by decide)) ?_
  clear hK K'
  try simp only [Act.put, List.setIfInBounds_toArray, List.set_cons_zero, List.set_cons_succ]
  refine anyT_done (by kernel_rfl) ?_ _
  go_wp2_with fail
  go_ret
  exact ⟨rfl, HBe.out.trans (HBh.out.mono HBe.out.size)⟩
end Go.Proofs.YtjpbhbfklkipkaaDoor
