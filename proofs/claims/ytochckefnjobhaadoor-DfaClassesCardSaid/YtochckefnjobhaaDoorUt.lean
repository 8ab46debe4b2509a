/- DfaClasses: the walk. -/
import Derived.Test.YtochckefnjobhaaDoorUu
import Derived.Test.YtochckefnjobhaaDoorWf
namespace Go.Proofs.YtochckefnjobhaaDoor
open Go Go.RowKit Go.Lib
open X3 (RX Pl)
open X5 (Aut)
set_option linter.unusedVariables false
set_option linter.unusedSimpArgs false

set_option maxRecDepth 100000 in
set_option maxHeartbeats 16000000 in
theorem classes_walk (l : List ByteArray) (s : ByteArray) (at_ : Int) (b : Nat) (hb : b < 256) (w : World) (v : Value) (h : TextsAt w v l) (hs : s.size ≤ maxLen) {Bt : Nat} (ht : Tab Bt w) (hBt : Bt ≤ w.heap.size) :
    Calls Tryd.prog 5 #[v, .string s, .int .i64 at_, .int .u8 (b : Int)] w fun e w' => e = .returned (.bool true) ∧ Below w.heap.size w w' := by
  have HT := hid h
  have HTab := hid ht
  have KW := hid (works w ht hBt)
  unfold maxLen at hs
  clear h ht
  go_enter Tryd.func5, Tryd.ntmps5
  go_wp2_with fail
  refine KW.out.mono ?_
  rintro e w1 ⟨rfl, hb1⟩
  have HT1 := hid (HT.out.below hb1)
  have HB1 := hid hb1
  have KO := hid (over_any l w1 v HT1.out)
  clear hb1
  go_wp2_with fail
  refine KO.out.mono ?_
  rintro e w9 ⟨rfl, rfl⟩
  cases hov : overB l with
  | true =>
    go_wp2_with fail
    go_ret
    exact ⟨rfl, HB1.out⟩
  | false =>
    have hl8 := over_few hov
    clear hov
    by_cases hs40 : (40 : Int) < (s.size : Int)
    · go_wp2_with fail
      go_ret
      exact ⟨rfl, HB1.out⟩
    by_cases ha0 : at_ < 0
    · go_wp2_with fail
      go_ret
      exact ⟨rfl, HB1.out⟩
    by_cases ha1 : (s.size : Int) ≤ at_
    · go_wp2_with fail
      go_ret
      exact ⟨rfl, HB1.out⟩
    have KP := hid (parsed_any l w9 v HT1.out (by omega))
    go_wp2_with fail
    refine KP.out.mono ?_
    rintro e w2 ⟨rv, rfl, hrow, hb2⟩
    have hlen : (treesOf l).length ≤ 8 := Nat.le_trans (List.length_filterMap_le _ _) hl8
    have HSZ := hid (trees_size l)
    have HB2 := hid (HB1.out.trans (hb2.mono HB1.out.size))
    have KB := hid (dfa_build_any (treesOf l) w2 rv (RowR.ofRow hrow) HSZ.out (by omega) (HTab.out.on (HB2.out.mono hBt)) (Nat.le_trans hBt HB2.out.size))
    generalize treesOf l = L at *
    clear hrow hb2
    go_wp2_with fail
    refine KB.out.mono ?_
    rintro e w3 ⟨hb3, ⟨hm, rfl⟩ | ⟨D, SS, A0, nv, tv, _, rfl, hA0, hS, hD⟩⟩
    · have HNB := hid (new_block w3 (.cells dvz 30))
      obtain ⟨w4, e4⟩ : ∃ w4, (w3.alloc (.cells dvz 30)).setRow w3.heap.size dvz = w4 := ⟨_, rfl⟩
      have hb4 : Below w3.heap.size w3 w4 := by rw [← e4]; exact ans_below (w0 := w3) ((Below.refl _ _).alloc (Nat.le_refl _) _) (Nat.le_refl _)
      have HB4 := hid (HB2.out.trans ((hb3.trans (hb4.mono hb3.size)).mono HB2.out.size))
      clear hm hb3 hb4
      go_wp2_with (first | (with_reducible refine wpList_made30 rfl rfl ?_) | (with_reducible refine wpList_store30 rfl (.tmp 10) (.tmp 38) rfl w3.heap.size rfl dvz dvz HNB.out rfl dvz_size dvz_size dvz_one ?_))
      clear e4
      generalize dvz = dz
      refine region_T 14 (fun w' => True) (by kernel_rfl) trivial (fun inv hHeld => ?_)
      refine anyT_take (i := 0) (oi := { dst := some 40, op := Op.move (Operand.tmp 11), type := 31, pos := "law.go:143", after := #[], guard := none }) (v := ?_) rfl (by kernel_rfl) (by kernel_rfl) (by kernel_rfl) (by decide) (by decide) (by kernel_rfl) (by kernel_rfl) (fun _ _ _ h => h) (Or.inl ⟨by rfl, ?_⟩) hHeld inv (fun inv => ?_)
      rotate_left
      · intro w hSw
        try dsimp only at hSw
        go_simp
        try with_reducible rfl
      simp only [Act.put, List.setIfInBounds_toArray, List.set_cons_zero, List.set_cons_succ]
      refine anyT_take (i := 1) (oi := { dst := some 41, op := Op.binOp BinOp.neq 31 (Operand.tmp 40) (Operand.const (Value.int IntKind.i64 0)) 31, type := 4, pos := "law.go:143", after := #[{ on := 0, ground := Ground.data }], guard := none }) (v := ?_) rfl (by kernel_rfl) (by kernel_rfl) (by kernel_rfl) (by decide) (by decide) (by kernel_rfl) (by kernel_rfl) (fun _ _ _ h => h) (Or.inl ⟨by rfl, ?_⟩) hHeld inv (fun inv => ?_)
      rotate_left
      · intro w hSw
        try dsimp only at hSw
        go_simp
        try with_reducible rfl
      simp only [Act.put, List.setIfInBounds_toArray, List.set_cons_zero, List.set_cons_succ]
      refine anyT_take (i := 2) (oi := { dst := some 42, op := Op.move (Operand.tmp 41), type := 4, pos := "law.go:143", after := #[{ on := 1, ground := Ground.data }], guard := none }) (v := ?_) rfl (by kernel_rfl) (by kernel_rfl) (by kernel_rfl) (by decide) (by decide) (by kernel_rfl) (by kernel_rfl) (fun _ _ _ h => h) (Or.inl ⟨by rfl, ?_⟩) hHeld inv (fun inv => ?_)
      rotate_left
      · intro w hSw
        try dsimp only at hSw
        go_simp
        try with_reducible rfl
      simp only [Act.put, List.setIfInBounds_toArray, List.set_cons_zero, List.set_cons_succ]
      refine anyT_take (i := 3) (oi := { dst := some 43, op := Op.move (Operand.tmp 3), type := 5, pos := "law.go:143", after := #[{ on := 2, ground := Ground.guard }], guard := some (2, false) }) (v := undef) rfl (by kernel_rfl) (by kernel_rfl) (by kernel_rfl) (by decide) (by decide) (by kernel_rfl) (by kernel_rfl) (fun _ _ _ h => h) (Or.inr ⟨by rfl, rfl⟩) hHeld inv (fun inv => ?_)
      simp only [Act.put, List.setIfInBounds_toArray, List.set_cons_zero, List.set_cons_succ]
      refine anyT_take (i := 4) (oi := { dst := some 44, op := Op.fieldAddr 30 (Operand.tmp 10) 0, type := 0, pos := "law.go:143", after := #[{ on := 2, ground := Ground.guard }], guard := some (2, false) }) (v := undef) rfl (by kernel_rfl) (by kernel_rfl) (by kernel_rfl) (by decide) (by decide) (by kernel_rfl) (by kernel_rfl) (fun _ _ _ h => h) (Or.inr ⟨by rfl, rfl⟩) hHeld inv (fun inv => ?_)
      simp only [Act.put, List.setIfInBounds_toArray, List.set_cons_zero, List.set_cons_succ]
      refine anyT_take (i := 5) (oi := { dst := some 45, op := Op.indexAddr 26 (Operand.tmp 44) (Operand.tmp 43), type := 0, pos := "law.go:143", after := #[{ on := 4, ground := Ground.data }, { on := 3, ground := Ground.data }, { on := 2, ground := Ground.guard }], guard := some (2, false) }) (v := undef) rfl (by kernel_rfl) (by kernel_rfl) (by kernel_rfl) (by decide) (by decide) (by kernel_rfl) (by kernel_rfl) (fun _ _ _ h => h) (Or.inr ⟨by rfl, rfl⟩) hHeld inv (fun inv => ?_)
      simp only [Act.put, List.setIfInBounds_toArray, List.set_cons_zero, List.set_cons_succ]
      refine anyT_take (i := 6) (oi := { dst := some 46, op := Op.load 3 (Operand.tmp 45), type := 3, pos := "law.go:143", after := #[{ on := 5, ground := Ground.data }, { on := 2, ground := Ground.guard }], guard := some (2, false) }) (v := undef) rfl (by kernel_rfl) (by kernel_rfl) (by kernel_rfl) (by decide) (by decide) (by kernel_rfl) (by kernel_rfl) (fun _ _ _ h => h) (Or.inr ⟨by rfl, rfl⟩) hHeld inv (fun inv => ?_)
      simp only [Act.put, List.setIfInBounds_toArray, List.set_cons_zero, List.set_cons_succ]
      refine anyT_take (i := 7) (oi := { dst := some 47, op := Op.move (Operand.tmp 1), type := 9, pos := "law.go:143", after := #[{ on := 2, ground := Ground.guard }], guard := some (2, false) }) (v := undef) rfl (by kernel_rfl) (by kernel_rfl) (by kernel_rfl) (by decide) (by decide) (by kernel_rfl) (by kernel_rfl) (fun _ _ _ h => h) (Or.inr ⟨by rfl, rfl⟩) hHeld inv (fun inv => ?_)
      simp only [Act.put, List.setIfInBounds_toArray, List.set_cons_zero, List.set_cons_succ]
      refine anyT_take (i := 8) (oi := { dst := some 48, op := Op.move (Operand.tmp 2), type := 3, pos := "law.go:143", after := #[{ on := 2, ground := Ground.guard }], guard := some (2, false) }) (v := undef) rfl (by kernel_rfl) (by kernel_rfl) (by kernel_rfl) (by decide) (by decide) (by kernel_rfl) (by kernel_rfl) (fun _ _ _ h => h) (Or.inr ⟨by rfl, rfl⟩) hHeld inv (fun inv => ?_)
      simp only [Act.put, List.setIfInBounds_toArray, List.set_cons_zero, List.set_cons_succ]
      refine anyT_take (i := 9) (oi := { dst := some 49, op := Op.index 9 (Operand.tmp 47) (Operand.tmp 48), type := 5, pos := "law.go:143", after := #[{ on := 7, ground := Ground.data }, { on := 8, ground := Ground.data }, { on := 2, ground := Ground.guard }], guard := some (2, false) }) (v := undef) rfl (by kernel_rfl) (by kernel_rfl) (by kernel_rfl) (by decide) (by decide) (by kernel_rfl) (by kernel_rfl) (fun _ _ _ h => h) (Or.inr ⟨by rfl, rfl⟩) hHeld inv (fun inv => ?_)
      simp only [Act.put, List.setIfInBounds_toArray, List.set_cons_zero, List.set_cons_succ]
      refine anyT_take (i := 10) (oi := { dst := some 50, op := Op.fieldAddr 30 (Operand.tmp 10) 0, type := 0, pos := "law.go:143", after := #[{ on := 2, ground := Ground.guard }], guard := some (2, false) }) (v := undef) rfl (by kernel_rfl) (by kernel_rfl) (by kernel_rfl) (by decide) (by decide) (by kernel_rfl) (by kernel_rfl) (fun _ _ _ h => h) (Or.inr ⟨by rfl, rfl⟩) hHeld inv (fun inv => ?_)
      simp only [Act.put, List.setIfInBounds_toArray, List.set_cons_zero, List.set_cons_succ]
      refine anyT_take (i := 11) (oi := { dst := some 51, op := Op.indexAddr 26 (Operand.tmp 50) (Operand.tmp 49), type := 0, pos := "law.go:143", after := #[{ on := 10, ground := Ground.data }, { on := 9, ground := Ground.data }, { on := 2, ground := Ground.guard }], guard := some (2, false) }) (v := undef) rfl (by kernel_rfl) (by kernel_rfl) (by kernel_rfl) (by decide) (by decide) (by kernel_rfl) (by kernel_rfl) (fun _ _ _ h => h) (Or.inr ⟨by rfl, rfl⟩) hHeld inv (fun inv => ?_)
      simp only [Act.put, List.setIfInBounds_toArray, List.set_cons_zero, List.set_cons_succ]
      refine anyT_take (i := 12) (oi := { dst := some 52, op := Op.load 3 (Operand.tmp 51), type := 3, pos := "law.go:143", after := #[{ on := 11, ground := Ground.data }, { on := 2, ground := Ground.guard }], guard := some (2, false) }) (v := undef) rfl (by kernel_rfl) (by kernel_rfl) (by kernel_rfl) (by decide) (by decide) (by kernel_rfl) (by kernel_rfl) (fun _ _ _ h => h) (Or.inr ⟨by rfl, rfl⟩) hHeld inv (fun inv => ?_)
      simp only [Act.put, List.setIfInBounds_toArray, List.set_cons_zero, List.set_cons_succ]
      refine anyT_take (i := 13) (oi := { dst := some 53, op := Op.binOp BinOp.neq 3 (Operand.tmp 46) (Operand.tmp 52) 3, type := 4, pos := "law.go:143", after := #[{ on := 6, ground := Ground.data }, { on := 12, ground := Ground.data }, { on := 2, ground := Ground.guard }], guard := some (2, false) }) (v := undef) rfl (by kernel_rfl) (by kernel_rfl) (by kernel_rfl) (by decide) (by decide) (by kernel_rfl) (by kernel_rfl) (fun _ _ _ h => h) (Or.inr ⟨by rfl, rfl⟩) hHeld inv (fun inv => ?_)
      simp only [Act.put, List.setIfInBounds_toArray, List.set_cons_zero, List.set_cons_succ]
      refine anyT_one (i := 14) (o := { dst := some 54, op := Op.pick (Operand.tmp 42) (Operand.const (Value.bool true)) (Operand.tmp 53), type := 4, pos := "law.go:143", after := #[{ on := 2, ground := Ground.data }, { on := 13, ground := Ground.data }], guard := none }) (by kernel_rfl) rfl (fun K' hK => ?_)
      go_simp
      refine hK.out _ _ (fun h => absurd h (by decide)) ?_
      clear hK K'
      try simp only [Act.put, List.setIfInBounds_toArray, List.set_cons_zero, List.set_cons_succ]
      refine anyT_done (by kernel_rfl) ?_ _
      go_wp2_with fail
      go_ret
      exact ⟨rfl, HB4.out.trans ((Below.refl _ _).drew.mono HB4.out.size)⟩
    · obtain ⟨dcls, NX, TG⟩ := D
      obtain rfl : dcls = _ := hS.cls
      have hcl : (clsX L).length = 256 := (cls_good L).1
      rw [dval_dvc]
      obtain ⟨dc, hdc⟩ : ∃ dc, dvc (clsX L) nv tv = dc := ⟨_, rfl⟩
      rw [hdc]
      obtain ⟨no, nc, hno, _⟩ := hD.rows
      obtain ⟨to, tc, hto, _⟩ := hD.tags
      have HS1 := hid (show dc.size = 258 from by rw [← hdc]; exact dvc_size (clsX L) hcl nv tv)
      have HS2 := hid (show dc.all (·.oneCell') = true from by rw [← hdc]; exact dvc_one (clsX L) (nv := nv) (tv := tv) (by rw [hno]; rfl) (by rw [hto]; rfl))
      have HNB := hid (new_block w3 (.cells dvz 30))
      obtain ⟨w4, e4⟩ : ∃ w4, (w3.alloc (.cells dvz 30)).setRow w3.heap.size dc = w4 := ⟨_, rfl⟩
      have hd4 : w4.heap[w3.heap.size]? = some (.cells dc 30 (0, 0)) := by rw [← e4]; exact setRow_heap _ _ dvz _ 30 (0, 0) HNB.out
      have hb4 : Below w3.heap.size w3 w4 := by rw [← e4]; exact ans_below (w0 := w3) ((Below.refl _ _).alloc (Nat.le_refl _) _) (Nat.le_refl _)
      have HB4 := hid (HB2.out.trans ((hb3.trans (hb4.mono hb3.size)).mono HB2.out.size))
      have HD4 := hid (And.intro hd4 (hD.below hb4))
      have HSets := hid (And.intro hS hA0)
      have hcell : ∀ (w' : World), w'.heap[w3.heap.size]? = some (.cells dc 30 (0, 0)) → ∀ j, j < 256 → w'.cell? ⟨w3.heap.size, j, none⟩ = some (.int .i64 (((clsX L).getD j 0 : Nat) : Int)) := fun w' hw j hj => by
        rw [Lib.cell_of_heap hw, ← hdc]
        unfold dvc
        rw [Array.getElem?_append_left (by rw [nvs_size, hcl]; exact hj)]
        exact nvs_at _ _ (by rw [hcl]; exact hj)
      obtain ⟨a, rfl⟩ : ∃ a : Nat, at_ = (a : Int) := ⟨at_.toNat, by omega⟩
      have hlt : a < s.size := by omega
      have h1 : (a : Int) < (s.size : Int) := by omega
      have h2 : (0 : Int) ≤ (a : Int) := by omega
      have hx : (s[a]'hlt).toNat < 256 := (s[a]'hlt).toNat_lt
      have HC := hid hcell
      have HDC := hid hdc
      have hbi : (b : Int) < 256 := by omega
      have hxi : ((s[a]'hlt).toNat : Int) < 256 := by omega
      have HE1 := hid (HC.out _ HD4.out.1 b hb)
      have HE2 := hid (HC.out _ HD4.out.1 _ hx)
      obtain ⟨c1, hc1⟩ : ∃ c1, (clsX L).getD b 0 = c1 := ⟨_, rfl⟩
      obtain ⟨c2, hc2⟩ : ∃ c2, (clsX L).getD (s[a]'hlt).toNat 0 = c2 := ⟨_, rfl⟩
      rw [hc1] at HE1
      rw [hc2] at HE2
      have HCE := hid (And.intro hc1 hc2)
      clear hb3 hb4 hd4 hS hA0 hD hno hto hcell hdc hcl hc1 hc2
      go_wp2_with (first | (with_reducible refine wpList_made30 rfl rfl ?_) | (with_reducible refine wpList_store30 rfl (.tmp 10) (.tmp 38) rfl w3.heap.size rfl dvz dc HNB.out rfl dvz_size HS1.out HS2.out ?_))
      clear e4
      refine region_T 14 (fun w' => w'.cell? ⟨w3.heap.size, b, none⟩ = some (.int .i64 (c1 : Int)) ∧ w'.cell? ⟨w3.heap.size, (s[a]'hlt).toNat, none⟩ = some (.int .i64 (c2 : Int))) (by kernel_rfl) ⟨HE1.out, HE2.out⟩ (fun inv hHeld => ?_)
      refine anyT_take (i := 0) (oi := { dst := some 40, op := Op.move (Operand.tmp 11), type := 31, pos := "law.go:143", after := #[], guard := none }) (v := ?_) rfl (by kernel_rfl) (by kernel_rfl) (by kernel_rfl) (by decide) (by decide) (by kernel_rfl) (by kernel_rfl) (fun _ _ _ h => h) (Or.inl ⟨by rfl, ?_⟩) hHeld inv (fun inv => ?_)
      rotate_left
      · intro w hSw
        try dsimp only at hSw
        go_simp
        try with_reducible rfl
      simp only [Act.put, List.setIfInBounds_toArray, List.set_cons_zero, List.set_cons_succ]
      refine anyT_take (i := 1) (oi := { dst := some 41, op := Op.binOp BinOp.neq 31 (Operand.tmp 40) (Operand.const (Value.int IntKind.i64 0)) 31, type := 4, pos := "law.go:143", after := #[{ on := 0, ground := Ground.data }], guard := none }) (v := ?_) rfl (by kernel_rfl) (by kernel_rfl) (by kernel_rfl) (by decide) (by decide) (by kernel_rfl) (by kernel_rfl) (fun _ _ _ h => h) (Or.inl ⟨by rfl, ?_⟩) hHeld inv (fun inv => ?_)
      rotate_left
      · intro w hSw
        try dsimp only at hSw
        go_simp
        try with_reducible rfl
      simp only [Act.put, List.setIfInBounds_toArray, List.set_cons_zero, List.set_cons_succ]
      refine anyT_take (i := 2) (oi := { dst := some 42, op := Op.move (Operand.tmp 41), type := 4, pos := "law.go:143", after := #[{ on := 1, ground := Ground.data }], guard := none }) (v := ?_) rfl (by kernel_rfl) (by kernel_rfl) (by kernel_rfl) (by decide) (by decide) (by kernel_rfl) (by kernel_rfl) (fun _ _ _ h => h) (Or.inl ⟨by rfl, ?_⟩) hHeld inv (fun inv => ?_)
      rotate_left
      · intro w hSw
        try dsimp only at hSw
        go_simp
        try with_reducible rfl
      simp only [Act.put, List.setIfInBounds_toArray, List.set_cons_zero, List.set_cons_succ]
      refine anyT_take (i := 3) (oi := { dst := some 43, op := Op.move (Operand.tmp 3), type := 5, pos := "law.go:143", after := #[{ on := 2, ground := Ground.guard }], guard := some (2, false) }) (v := ?_) rfl (by kernel_rfl) (by kernel_rfl) (by kernel_rfl) (by decide) (by decide) (by kernel_rfl) (by kernel_rfl) (fun _ _ _ h => h) (Or.inl ⟨by rfl, ?_⟩) hHeld inv (fun inv => ?_)
      rotate_left
      · intro w hSw
        try dsimp only at hSw
        go_simp
        try with_reducible rfl
      simp only [Act.put, List.setIfInBounds_toArray, List.set_cons_zero, List.set_cons_succ]
      refine anyT_take (i := 4) (oi := { dst := some 44, op := Op.fieldAddr 30 (Operand.tmp 10) 0, type := 0, pos := "law.go:143", after := #[{ on := 2, ground := Ground.guard }], guard := some (2, false) }) (v := ?_) rfl (by kernel_rfl) (by kernel_rfl) (by kernel_rfl) (by decide) (by decide) (by kernel_rfl) (by kernel_rfl) (fun _ _ _ h => h) (Or.inl ⟨by rfl, ?_⟩) hHeld inv (fun inv => ?_)
      rotate_left
      · intro w hSw
        try dsimp only at hSw
        go_simp
        try with_reducible rfl
      simp only [Act.put, List.setIfInBounds_toArray, List.set_cons_zero, List.set_cons_succ]
      refine anyT_take (i := 5) (oi := { dst := some 45, op := Op.indexAddr 26 (Operand.tmp 44) (Operand.tmp 43), type := 0, pos := "law.go:143", after := #[{ on := 4, ground := Ground.data }, { on := 3, ground := Ground.data }, { on := 2, ground := Ground.guard }], guard := some (2, false) }) (v := ?_) rfl (by kernel_rfl) (by kernel_rfl) (by kernel_rfl) (by decide) (by decide) (by kernel_rfl) (by kernel_rfl) (fun _ _ _ h => h) (Or.inl ⟨by rfl, ?_⟩) hHeld inv (fun inv => ?_)
      rotate_left
      · intro w hSw
        try dsimp only at hSw
        go_simp
        try with_reducible rfl
      simp only [Act.put, List.setIfInBounds_toArray, List.set_cons_zero, List.set_cons_succ]
      refine anyT_take (i := 6) (oi := { dst := some 46, op := Op.load 3 (Operand.tmp 45), type := 3, pos := "law.go:143", after := #[{ on := 5, ground := Ground.data }, { on := 2, ground := Ground.guard }], guard := some (2, false) }) (v := ?_) rfl (by kernel_rfl) (by kernel_rfl) (by kernel_rfl) (by decide) (by decide) (by kernel_rfl) (by kernel_rfl) (fun _ _ _ h => h) (Or.inl ⟨by rfl, ?_⟩) hHeld inv (fun inv => ?_)
      rotate_left
      · intro w hSw
        try dsimp only at hSw
        go_simp
        try with_reducible rfl
      simp only [Act.put, List.setIfInBounds_toArray, List.set_cons_zero, List.set_cons_succ]
      refine anyT_take (i := 7) (oi := { dst := some 47, op := Op.move (Operand.tmp 1), type := 9, pos := "law.go:143", after := #[{ on := 2, ground := Ground.guard }], guard := some (2, false) }) (v := ?_) rfl (by kernel_rfl) (by kernel_rfl) (by kernel_rfl) (by decide) (by decide) (by kernel_rfl) (by kernel_rfl) (fun _ _ _ h => h) (Or.inl ⟨by rfl, ?_⟩) hHeld inv (fun inv => ?_)
      rotate_left
      · intro w hSw
        try dsimp only at hSw
        go_simp
        try with_reducible rfl
      simp only [Act.put, List.setIfInBounds_toArray, List.set_cons_zero, List.set_cons_succ]
      refine anyT_take (i := 8) (oi := { dst := some 48, op := Op.move (Operand.tmp 2), type := 3, pos := "law.go:143", after := #[{ on := 2, ground := Ground.guard }], guard := some (2, false) }) (v := ?_) rfl (by kernel_rfl) (by kernel_rfl) (by kernel_rfl) (by decide) (by decide) (by kernel_rfl) (by kernel_rfl) (fun _ _ _ h => h) (Or.inl ⟨by rfl, ?_⟩) hHeld inv (fun inv => ?_)
      rotate_left
      · intro w hSw
        try dsimp only at hSw
        go_simp
        try with_reducible rfl
      simp only [Act.put, List.setIfInBounds_toArray, List.set_cons_zero, List.set_cons_succ]
      refine anyT_take (i := 9) (oi := { dst := some 49, op := Op.index 9 (Operand.tmp 47) (Operand.tmp 48), type := 5, pos := "law.go:143", after := #[{ on := 7, ground := Ground.data }, { on := 8, ground := Ground.data }, { on := 2, ground := Ground.guard }], guard := some (2, false) }) (v := ?_) rfl (by kernel_rfl) (by kernel_rfl) (by kernel_rfl) (by decide) (by decide) (by kernel_rfl) (by kernel_rfl) (fun _ _ _ h => h) (Or.inl ⟨by rfl, ?_⟩) hHeld inv (fun inv => ?_)
      rotate_left
      · intro w hSw
        try dsimp only at hSw
        go_simp
        try with_reducible rfl
      simp only [Act.put, List.setIfInBounds_toArray, List.set_cons_zero, List.set_cons_succ]
      refine anyT_take (i := 10) (oi := { dst := some 50, op := Op.fieldAddr 30 (Operand.tmp 10) 0, type := 0, pos := "law.go:143", after := #[{ on := 2, ground := Ground.guard }], guard := some (2, false) }) (v := ?_) rfl (by kernel_rfl) (by kernel_rfl) (by kernel_rfl) (by decide) (by decide) (by kernel_rfl) (by kernel_rfl) (fun _ _ _ h => h) (Or.inl ⟨by rfl, ?_⟩) hHeld inv (fun inv => ?_)
      rotate_left
      · intro w hSw
        try dsimp only at hSw
        go_simp
        try with_reducible rfl
      simp only [Act.put, List.setIfInBounds_toArray, List.set_cons_zero, List.set_cons_succ]
      refine anyT_take (i := 11) (oi := { dst := some 51, op := Op.indexAddr 26 (Operand.tmp 50) (Operand.tmp 49), type := 0, pos := "law.go:143", after := #[{ on := 10, ground := Ground.data }, { on := 9, ground := Ground.data }, { on := 2, ground := Ground.guard }], guard := some (2, false) }) (v := ?_) rfl (by kernel_rfl) (by kernel_rfl) (by kernel_rfl) (by decide) (by decide) (by kernel_rfl) (by kernel_rfl) (fun _ _ _ h => h) (Or.inl ⟨by rfl, ?_⟩) hHeld inv (fun inv => ?_)
      rotate_left
      · intro w hSw
        try dsimp only at hSw
        go_simp
        try with_reducible rfl
      simp only [Act.put, List.setIfInBounds_toArray, List.set_cons_zero, List.set_cons_succ]
      refine anyT_take (i := 12) (oi := { dst := some 52, op := Op.load 3 (Operand.tmp 51), type := 3, pos := "law.go:143", after := #[{ on := 11, ground := Ground.data }, { on := 2, ground := Ground.guard }], guard := some (2, false) }) (v := ?_) rfl (by kernel_rfl) (by kernel_rfl) (by kernel_rfl) (by decide) (by decide) (by kernel_rfl) (by kernel_rfl) (fun _ _ _ h => h) (Or.inl ⟨by rfl, ?_⟩) hHeld inv (fun inv => ?_)
      rotate_left
      · intro w hSw
        try dsimp only at hSw
        go_simp
        try with_reducible rfl
      simp only [Act.put, List.setIfInBounds_toArray, List.set_cons_zero, List.set_cons_succ]
      refine anyT_take (i := 13) (oi := { dst := some 53, op := Op.binOp BinOp.neq 3 (Operand.tmp 46) (Operand.tmp 52) 3, type := 4, pos := "law.go:143", after := #[{ on := 6, ground := Ground.data }, { on := 12, ground := Ground.data }, { on := 2, ground := Ground.guard }], guard := some (2, false) }) (v := ?_) rfl (by kernel_rfl) (by kernel_rfl) (by kernel_rfl) (by decide) (by decide) (by kernel_rfl) (by kernel_rfl) (fun _ _ _ h => h) (Or.inl ⟨by rfl, ?_⟩) hHeld inv (fun inv => ?_)
      rotate_left
      · intro w hSw
        try dsimp only at hSw
        go_simp
        try with_reducible rfl
      simp only [Act.put, List.setIfInBounds_toArray, List.set_cons_zero, List.set_cons_succ]
      refine anyT_one (i := 14) (o := { dst := some 54, op := Op.pick (Operand.tmp 42) (Operand.const (Value.bool true)) (Operand.tmp 53), type := 4, pos := "law.go:143", after := #[{ on := 2, ground := Ground.data }, { on := 13, ground := Ground.data }], guard := none }) (by kernel_rfl) rfl (fun K' hK => ?_)
      go_simp
      refine hK.out _ _ (fun h => absurd h (by decide)) ?_
      clear hK K'
      try simp only [Act.put, List.setIfInBounds_toArray, List.set_cons_zero, List.set_cons_succ]
      refine anyT_done (by kernel_rfl) ?_ _
      by_cases hcc : c1 = c2
      · have hci : (c1 : Int) = (c2 : Int) := by rw [hcc]
        have HCC := hid hcc
        clear hHeld inv
        go_wp2_with fail
        have h3 : (a : Int) + 1 ≤ (s.size : Int) := by omega
        have h4 : (0 : Int) ≤ (a : Int) + 1 := by omega
        have h5 : (a : Int) ≤ (s.size : Int) := by omega
        have h6 : (a : Int) + 1 ≤ 9223372036854775807 := by omega
        have h7 : (-9223372036854775808 : Int) ≤ (a : Int) + 1 := by omega
        have hw1 : IntKind.i64.wrap ((a : Int) + 1) = (a : Int) + 1 := by rw [IntKind.wrap_i64]; omega
        have hw2 : ((a : Int) + 1).toNat = a + 1 := by omega
        refine region_T 12 (fun w' => True) (by kernel_rfl) trivial (fun inv hHeld => ?_)
        refine anyT_take (i := 0) (oi := { dst := some 56, op := Op.move (Operand.tmp 1), type := 9, pos := "law.go:146", after := #[], guard := none }) (v := ?_) rfl (by kernel_rfl) (by kernel_rfl) (by kernel_rfl) (by decide) (by decide) (by kernel_rfl) (by kernel_rfl) (fun _ _ _ h => h) (Or.inl ⟨by rfl, ?_⟩) hHeld inv (fun inv => ?_)
        rotate_left
        · intro w hSw
          try dsimp only at hSw
          go_simp
          try with_reducible rfl
        simp only [Act.put, List.setIfInBounds_toArray, List.set_cons_zero, List.set_cons_succ]
        refine anyT_take (i := 1) (oi := { dst := some 57, op := Op.move (Operand.tmp 2), type := 3, pos := "law.go:146", after := #[], guard := none }) (v := ?_) rfl (by kernel_rfl) (by kernel_rfl) (by kernel_rfl) (by decide) (by decide) (by kernel_rfl) (by kernel_rfl) (fun _ _ _ h => h) (Or.inl ⟨by rfl, ?_⟩) hHeld inv (fun inv => ?_)
        rotate_left
        · intro w hSw
          try dsimp only at hSw
          go_simp
          try with_reducible rfl
        simp only [Act.put, List.setIfInBounds_toArray, List.set_cons_zero, List.set_cons_succ]
        refine anyT_take (i := 2) (oi := { dst := some 58, op := Op.slice 9 (Operand.tmp 56) none (some (Operand.tmp 57)) none, type := 9, pos := "law.go:146", after := #[{ on := 0, ground := Ground.data }, { on := 1, ground := Ground.data }], guard := none }) (v := ?_) rfl (by kernel_rfl) (by kernel_rfl) (by kernel_rfl) (by decide) (by decide) (by kernel_rfl) (by kernel_rfl) (fun _ _ _ h => h) (Or.inl ⟨by rfl, ?_⟩) hHeld inv (fun inv => ?_)
        rotate_left
        · intro w hSw
          try dsimp only at hSw
          go_simp
          try with_reducible rfl
        simp only [Act.put, List.setIfInBounds_toArray, List.set_cons_zero, List.set_cons_succ]
        refine anyT_take (i := 3) (oi := { dst := some 59, op := Op.move (Operand.tmp 3), type := 5, pos := "law.go:146", after := #[], guard := none }) (v := ?_) rfl (by kernel_rfl) (by kernel_rfl) (by kernel_rfl) (by decide) (by decide) (by kernel_rfl) (by kernel_rfl) (fun _ _ _ h => h) (Or.inl ⟨by rfl, ?_⟩) hHeld inv (fun inv => ?_)
        rotate_left
        · intro w hSw
          try dsimp only at hSw
          go_simp
          try with_reducible rfl
        simp only [Act.put, List.setIfInBounds_toArray, List.set_cons_zero, List.set_cons_succ]
        refine anyT_take (i := 7) (oi := { dst := some 63, op := Op.move (Operand.tmp 1), type := 9, pos := "law.go:146", after := #[], guard := none }) (v := ?_) rfl (by kernel_rfl) (by kernel_rfl) (by kernel_rfl) (by decide) (by decide) (by kernel_rfl) (by kernel_rfl) (fun _ _ _ h => h) (Or.inl ⟨by rfl, ?_⟩) hHeld inv (fun inv => ?_)
        rotate_left
        · intro w hSw
          try dsimp only at hSw
          go_simp
          try with_reducible rfl
        simp only [Act.put, List.setIfInBounds_toArray, List.set_cons_zero, List.set_cons_succ]
        refine anyT_take (i := 8) (oi := { dst := some 64, op := Op.move (Operand.tmp 2), type := 3, pos := "law.go:146", after := #[], guard := none }) (v := ?_) rfl (by kernel_rfl) (by kernel_rfl) (by kernel_rfl) (by decide) (by decide) (by kernel_rfl) (by kernel_rfl) (fun _ _ _ h => h) (Or.inl ⟨by rfl, ?_⟩) hHeld inv (fun inv => ?_)
        rotate_left
        · intro w hSw
          try dsimp only at hSw
          go_simp
          try with_reducible rfl
        simp only [Act.put, List.setIfInBounds_toArray, List.set_cons_zero, List.set_cons_succ]
        refine anyT_take (i := 9) (oi := { dst := some 65, op := Op.binOp BinOp.add 3 (Operand.tmp 64) (Operand.const (Value.int IntKind.i64 1)) 3, type := 3, pos := "law.go:146", after := #[{ on := 8, ground := Ground.data }], guard := none }) (v := ?_) rfl (by kernel_rfl) (by kernel_rfl) (by kernel_rfl) (by decide) (by decide) (by kernel_rfl) (by kernel_rfl) (fun _ _ _ h => h) (Or.inl ⟨by rfl, ?_⟩) hHeld inv (fun inv => ?_)
        rotate_left
        · intro w hSw
          try dsimp only at hSw
          go_simp
          try with_reducible rfl
        simp only [Act.put, List.setIfInBounds_toArray, List.set_cons_zero, List.set_cons_succ]
        refine anyT_take (i := 10) (oi := { dst := some 66, op := Op.slice 9 (Operand.tmp 63) (some (Operand.tmp 65)) none none, type := 9, pos := "law.go:146", after := #[{ on := 7, ground := Ground.data }, { on := 9, ground := Ground.data }], guard := none }) (v := ?_) rfl (by kernel_rfl) (by kernel_rfl) (by kernel_rfl) (by decide) (by decide) (by kernel_rfl) (by kernel_rfl) (fun _ _ _ h => h) (Or.inl ⟨by rfl, ?_⟩) hHeld inv (fun inv => ?_)
        rotate_left
        · intro w hSw
          try dsimp only at hSw
          go_simp
          try with_reducible rfl
        simp only [Act.put, List.setIfInBounds_toArray, List.set_cons_zero, List.set_cons_succ]
        obtain ⟨wz, ez⟩ : ∃ wz, w4.drew.drew = wz := ⟨_, rfl⟩
        rw [ez]
        obtain ⟨w5, e5⟩ : ∃ w5, wz.alloc (.cells #[.int .u8 (b : Int)] 5) = w5 := ⟨_, rfl⟩
        have hbz : Below w4.heap.size w4 wz := by rw [← ez]; exact (Below.refl _ _).drew.drew
        have hb5 : Below wz.heap.size wz w5 := by rw [← e5]; exact (Below.refl _ _).alloc (Nat.le_refl _) _
        have hn5 : w5.heap[wz.heap.size]? = some (.cells #[.int .u8 (b : Int)] 5 (0, 0)) := by rw [← e5]; exact new_block _ _
        have HB5 := hid (hbz.trans (hb5.mono hbz.size))
        have hcv := one_byte w5 wz.heap.size b hb hn5
        clear hbz hb5 hn5
        refine anyT_next (i := 4) (o := { dst := some 60, op := Op.buildSlice 49 1 #[(0, Operand.tmp 59)], type := 49, pos := "law.go:146", after := #[{ on := 3, ground := Ground.data }], guard := none }) (by kernel_rfl) rfl (by decide) inv (fun inv K' hK => ?_)
        go_simp
        refine hK.out _ _ trivial ?_
        clear hK K'
        try simp only [Act.put, List.setIfInBounds_toArray, List.set_cons_zero, List.set_cons_succ]
        refine anyT_next (i := 5) (o := { dst := some 61, op := Op.convert 49 9 (Operand.tmp 60), type := 9, pos := "law.go:146", after := #[{ on := 4, ground := Ground.data }], guard := none }) (by kernel_rfl) rfl (by decide) inv (fun inv K' hK => ?_)
        go_simp
        refine hK.out _ _ trivial ?_
        clear hK K'
        try simp only [Act.put, List.setIfInBounds_toArray, List.set_cons_zero, List.set_cons_succ]
        obtain ⟨p1, hp1⟩ : ∃ p1, s.extract 0 a = p1 := ⟨_, rfl⟩
        obtain ⟨p2, hp2⟩ : ∃ p2, s.extract (a + 1) s.size = p2 := ⟨_, rfl⟩
        rw [hp1, hp2]
        have hz1 : p1.size = a := by rw [← hp1, ByteArray.size_extract]; omega
        have hz2 : p2.size = s.size - (a + 1) := by rw [← hp2, ByteArray.size_extract]; omega
        have hq1 : ¬ 9223372036854775807 < p1.size + 1 := by omega
        have hq2 : ¬ 9223372036854775807 < p1.size + 1 + p2.size := by omega
        have hq3 : ¬ 9223372036854775807 < p1.size + (1 + p2.size) := by omega
        have HP := hid (And.intro hp1 (And.intro hp2 (And.intro hz1 hz2)))
        clear hp1 hp2 hz1 hz2
        refine anyT_take (i := 6) (oi := { dst := some 62, op := Op.binOp BinOp.add 9 (Operand.tmp 58) (Operand.tmp 61) 9, type := 9, pos := "law.go:146", after := #[{ on := 2, ground := Ground.data }, { on := 5, ground := Ground.data }], guard := none }) (v := ?_) rfl (by kernel_rfl) (by kernel_rfl) (by kernel_rfl) (by decide) (by decide) (by kernel_rfl) (by kernel_rfl) (fun _ _ _ h => h) (Or.inl ⟨by rfl, ?_⟩) hHeld inv (fun inv => ?_)
        rotate_left
        · intro w hSw
          try dsimp only at hSw
          go_simp
          try with_reducible rfl
        simp only [Act.put, List.setIfInBounds_toArray, List.set_cons_zero, List.set_cons_succ]
        refine anyT_take (i := 11) (oi := { dst := some 67, op := Op.binOp BinOp.add 9 (Operand.tmp 62) (Operand.tmp 66) 9, type := 9, pos := "law.go:146", after := #[{ on := 6, ground := Ground.data }, { on := 10, ground := Ground.data }], guard := none }) (v := ?_) rfl (by kernel_rfl) (by kernel_rfl) (by kernel_rfl) (by decide) (by decide) (by kernel_rfl) (by kernel_rfl) (fun _ _ _ h => h) (Or.inl ⟨by rfl, ?_⟩) hHeld inv (fun inv => ?_)
        rotate_left
        · intro w hSw
          try dsimp only at hSw
          go_simp
          try with_reducible rfl
        simp only [Act.put, List.setIfInBounds_toArray, List.set_cons_zero, List.set_cons_succ]
        refine anyT_one (i := 12) (o := { dst := some 12, op := Op.assign (Operand.tmp 67), type := 9, pos := "law.go:146", after := #[{ on := 11, ground := Ground.data }, { on := 0, ground := Ground.phase }, { on := 1, ground := Ground.phase }, { on := 2, ground := Ground.phase }, { on := 3, ground := Ground.phase }, { on := 4, ground := Ground.phase }, { on := 5, ground := Ground.phase }, { on := 6, ground := Ground.phase }, { on := 7, ground := Ground.phase }, { on := 8, ground := Ground.phase }, { on := 9, ground := Ground.phase }, { on := 10, ground := Ground.phase }, { on := 11, ground := Ground.phase }], guard := none }) (by kernel_rfl) rfl (fun K' hK => ?_)
        go_simp
        refine hK.out _ _ (fun h => absurd h (by decide)) ?_
        clear hK K'
        try simp only [Act.put, List.setIfInBounds_toArray, List.set_cons_zero, List.set_cons_succ]
        refine anyT_done (by kernel_rfl) ?_ _
        clear hHeld inv hq1 hq2 hq3 hcv e5 ez hw1 hw2
        have hrun : X5.runX ⟨(clsX L).map fun (n : Nat) => (n : Int), NX, TG⟩ (LL (p1 ++ ⟨#[UInt8.ofNat b]⟩ ++ p2)) = X5.runX ⟨(clsX L).map fun (n : Nat) => (n : Int), NX, TG⟩ (LL s) := by
          rw [LL_cut s a hlt, HP.out.1, HP.out.2.1, LL_app, LL_app, List.append_assoc]
          refine X5.run_swap _ _ _ _ _ ?_
          have e : (UInt8.ofNat b).toNat = b := by simp [UInt8.toNat_ofNat, Nat.mod_eq_of_lt hb]
          rw [e, cls_nat _ _ _ _ hb, cls_nat _ _ _ _ hx, HCE.out.1, HCE.out.2, hcc]
        have hlt4 : w3.heap.size < w4.heap.size := (Array.getElem?_eq_some_iff.1 HD4.out.1).1
        have HH5 := hid ((HB5.out.block _ hlt4).trans HD4.out.1)
        have HD5 := hid (HD4.out.2.below HB5.out)
        have HBw := hid (HB4.out.trans (HB5.out.mono HB4.out.size))
        have hlt5 : w3.heap.size < w5.heap.size := Nat.lt_of_lt_of_le hlt4 HB5.out.size
        have KR := fun (w' : World) (hb : Below w5.heap.size w5 w') (x : ByteArray) (hx : x.size < 9223372036854775808) => run_dfa (HD5.out.below hb) x hx
        rw [dval_dvc, HDC.out] at KR
        have KR1 := hid fun (w' : World) (hb : Below w5.heap.size w5 w') => KR w' hb s (by omega)
        have KR2 := hid fun (w' : World) (hb : Below w5.heap.size w5 w') => KR w' hb (p1 ++ ⟨#[UInt8.ofNat b]⟩ ++ p2) (by rw [ByteArray.size_append, ByteArray.size_append, HP.out.2.2.1, HP.out.2.2.2]; show a + 1 + _ < _; omega)
        rw [hrun] at KR2
        generalize X5.runX ⟨(clsX L).map fun (n : Nat) => (n : Int), NX, TG⟩ (LL s) = T at *
        generalize p1 ++ ⟨#[UInt8.ofNat b]⟩ ++ p2 = t at *
        clear hrun KR HD4 HB4 HB5 HP HCE HC HE1 HE2
        go_wp2_with fail
        refine region_T 10 (fun w' => w'.heap[w3.heap.size]? = some (.cells dc 30 (0, 0))) (by kernel_rfl) HH5.out (fun inv hHeld => ?_)
        refine anyT_take (i := 0) (oi := { dst := some 68, op := Op.move (Operand.tmp 9), type := 4, pos := "law.go:147", after := #[], guard := none }) (v := ?_) rfl (by kernel_rfl) (by kernel_rfl) (by kernel_rfl) (by decide) (by decide) (by kernel_rfl) (by kernel_rfl) (fun _ _ _ h => h) (Or.inl ⟨by rfl, ?_⟩) hHeld inv (fun inv => ?_)
        rotate_left
        · intro w hSw
          try dsimp only at hSw
          go_simp
          try with_reducible rfl
        simp only [Act.put, List.setIfInBounds_toArray, List.set_cons_zero, List.set_cons_succ]
        refine anyT_take (i := 1) (oi := { dst := some 69, op := Op.move (Operand.tmp 68), type := 4, pos := "law.go:147", after := #[{ on := 0, ground := Ground.data }], guard := none }) (v := ?_) rfl (by kernel_rfl) (by kernel_rfl) (by kernel_rfl) (by decide) (by decide) (by kernel_rfl) (by kernel_rfl) (fun _ _ _ h => h) (Or.inl ⟨by rfl, ?_⟩) hHeld inv (fun inv => ?_)
        rotate_left
        · intro w hSw
          try dsimp only at hSw
          go_simp
          try with_reducible rfl
        simp only [Act.put, List.setIfInBounds_toArray, List.set_cons_zero, List.set_cons_succ]
        refine anyT_take (i := 2) (oi := { dst := some 70, op := Op.load 30 (Operand.tmp 10), type := 30, pos := "law.go:147", after := #[{ on := 1, ground := Ground.guard }], guard := some (1, true) }) (v := .agg dc) rfl (by kernel_rfl) (by kernel_rfl) (by kernel_rfl) (by decide) (by decide) (by kernel_rfl) (by kernel_rfl) (fun _ _ _ h => h) (Or.inl ⟨by rfl, fun w hSw => exec_load30 (.tmp 10) rfl w3.heap.size rfl dc hSw HS1.out⟩) hHeld inv (fun inv => ?_)
        simp only [Act.put, List.setIfInBounds_toArray, List.set_cons_zero, List.set_cons_succ]
        refine anyT_take (i := 3) (oi := { dst := some 71, op := Op.move (Operand.tmp 1), type := 9, pos := "law.go:147", after := #[{ on := 1, ground := Ground.guard }], guard := some (1, true) }) (v := ?_) rfl (by kernel_rfl) (by kernel_rfl) (by kernel_rfl) (by decide) (by decide) (by kernel_rfl) (by kernel_rfl) (fun _ _ _ h => h) (Or.inl ⟨by rfl, ?_⟩) hHeld inv (fun inv => ?_)
        rotate_left
        · intro w hSw
          try dsimp only at hSw
          go_simp
          try with_reducible rfl
        simp only [Act.put, List.setIfInBounds_toArray, List.set_cons_zero, List.set_cons_succ]
        refine anyT_take (i := 5) (oi := { dst := some 73, op := Op.load 30 (Operand.tmp 10), type := 30, pos := "law.go:147", after := #[{ on := 1, ground := Ground.guard }], guard := some (1, true) }) (v := .agg dc) rfl (by kernel_rfl) (by kernel_rfl) (by kernel_rfl) (by decide) (by decide) (by kernel_rfl) (by kernel_rfl) (fun _ _ _ h => h) (Or.inl ⟨by rfl, fun w hSw => exec_load30 (.tmp 10) rfl w3.heap.size rfl dc hSw HS1.out⟩) hHeld inv (fun inv => ?_)
        simp only [Act.put, List.setIfInBounds_toArray, List.set_cons_zero, List.set_cons_succ]
        refine anyT_take (i := 6) (oi := { dst := some 74, op := Op.move (Operand.tmp 12), type := 9, pos := "law.go:147", after := #[{ on := 1, ground := Ground.guard }], guard := some (1, true) }) (v := ?_) rfl (by kernel_rfl) (by kernel_rfl) (by kernel_rfl) (by decide) (by decide) (by kernel_rfl) (by kernel_rfl) (fun _ _ _ h => h) (Or.inl ⟨by rfl, ?_⟩) hHeld inv (fun inv => ?_)
        rotate_left
        · intro w hSw
          try dsimp only at hSw
          go_simp
          try with_reducible rfl
        simp only [Act.put, List.setIfInBounds_toArray, List.set_cons_zero, List.set_cons_succ]
        refine anyT_next (i := 4) (o := { dst := some 72, op := Op.call { callee := Callee.value (Operand.func 15), args := #[Operand.tmp 70, Operand.tmp 71], argTypes := #[30, 9] }, type := 43, pos := "law.go:147", after := #[{ on := 2, ground := Ground.data }, { on := 3, ground := Ground.data }, { on := 1, ground := Ground.chain }, { on := 1, ground := Ground.guard }], guard := some (1, true) }) (by kernel_rfl) rfl (by decide) inv (fun inv K' hK => ?_)
        go_simp
        refine (KR1.out w5.drew (Below.refl _ _).drew).mono ?_
        rintro e w6 ⟨rfl, hb6⟩
        have HH6 := hid ((hb6.block w3.heap.size hlt5).trans HH5.out)
        have HB6 := hid ((Below.refl _ w5).drew.trans hb6)
        clear hb6
        go_wp2_with fail
        refine hK.out _ _ HH6.out ?_
        clear hK K'
        try simp only [Act.put, List.setIfInBounds_toArray, List.set_cons_zero, List.set_cons_succ]
        refine anyT_next (i := 7) (o := { dst := some 75, op := Op.call { callee := Callee.value (Operand.func 15), args := #[Operand.tmp 73, Operand.tmp 74], argTypes := #[30, 9] }, type := 43, pos := "law.go:147", after := #[{ on := 5, ground := Ground.data }, { on := 6, ground := Ground.data }, { on := 4, ground := Ground.chain }, { on := 1, ground := Ground.guard }], guard := some (1, true) }) (by kernel_rfl) rfl (by decide) inv (fun inv K' hK => ?_)
        go_simp
        refine (KR2.out w6 HB6.out).mono ?_
        rintro e w7 ⟨rfl, hb7⟩
        have HH7 := hid ((hb7.block w3.heap.size (Nat.lt_of_lt_of_le hlt5 HB6.out.size)).trans HH6.out)
        have HB7 := hid (HB6.out.trans (hb7.mono HB6.out.size))
        clear hb7
        go_wp2_with fail
        refine hK.out _ _ HH7.out ?_
        clear hK K'
        try simp only [Act.put, List.setIfInBounds_toArray, List.set_cons_zero, List.set_cons_succ]
        refine anyT_take (i := 8) (oi := { dst := some 76, op := Op.binOp BinOp.eql 43 (Operand.tmp 72) (Operand.tmp 75) 43, type := 4, pos := "law.go:147", after := #[{ on := 4, ground := Ground.data }, { on := 7, ground := Ground.data }, { on := 1, ground := Ground.guard }], guard := some (1, true) }) (v := ?_) rfl (by kernel_rfl) (by kernel_rfl) (by kernel_rfl) (by decide) (by decide) (by kernel_rfl) (by kernel_rfl) (fun _ _ _ h => h) (Or.inl ⟨by rfl, ?_⟩) HH7.out inv (fun inv => ?_)
        rotate_left
        · intro w hSw
          try dsimp only at hSw
          go_simp
          try with_reducible rfl
        simp only [Act.put, List.setIfInBounds_toArray, List.set_cons_zero, List.set_cons_succ]
        refine anyT_take (i := 9) (oi := { dst := some 77, op := Op.pick (Operand.tmp 69) (Operand.tmp 76) (Operand.const (Value.bool false)), type := 4, pos := "law.go:147", after := #[{ on := 1, ground := Ground.data }, { on := 8, ground := Ground.data }], guard := none }) (v := ?_) rfl (by kernel_rfl) (by kernel_rfl) (by kernel_rfl) (by decide) (by decide) (by kernel_rfl) (by kernel_rfl) (fun _ _ _ h => h) (Or.inl ⟨by rfl, ?_⟩) HH7.out inv (fun inv => ?_)
        rotate_left
        · intro w hSw
          try dsimp only at hSw
          go_simp
          try with_reducible rfl
        simp only [Act.put, List.setIfInBounds_toArray, List.set_cons_zero, List.set_cons_succ]
        refine anyT_one (i := 10) (o := { dst := some 8, op := Op.assign (Operand.tmp 77), type := 4, pos := "law.go:147", after := #[{ on := 9, ground := Ground.data }, { on := 7, ground := Ground.chain }, { on := 0, ground := Ground.phase }, { on := 1, ground := Ground.phase }, { on := 2, ground := Ground.phase }, { on := 3, ground := Ground.phase }, { on := 4, ground := Ground.phase }, { on := 5, ground := Ground.phase }, { on := 6, ground := Ground.phase }, { on := 7, ground := Ground.phase }, { on := 8, ground := Ground.phase }, { on := 9, ground := Ground.phase }], guard := none }) (by kernel_rfl) rfl (fun K' hK => ?_)
        go_simp
        refine hK.out _ _ (fun h => absurd h (by decide)) ?_
        clear hK K'
        try simp only [Act.put, List.setIfInBounds_toArray, List.set_cons_zero, List.set_cons_succ]
        refine anyT_done (by kernel_rfl) ?_ _
        clear hHeld inv
        go_wp2_with fail
        go_ret
        exact ⟨rfl, HBw.out.trans (HB7.out.mono HBw.out.size)⟩
      · have hci : ¬ (c1 : Int) = (c2 : Int) := by omega
        have hci2 : ((c1 : Int) == (c2 : Int)) = false := beq_eq_false_iff_ne.2 hci
        clear hHeld inv
        go_wp2_with fail
        all_goals (
          go_ret
          exact ⟨rfl, HB4.out.trans ((Below.refl _ _).drew.mono HB4.out.size)⟩)
end Go.Proofs.YtochckefnjobhaaDoor
