/- DfaParts: the walk. -/
import Derived.Test.YtochckefnjobhaaDoorUu
import Derived.Test.YtochckefnjobhaaDoorWf
namespace Go.Proofs.YtochckefnjobhaaDoor
open Go Go.RowKit Go.Lib
open X3 (RX Pl)
open X5 (Aut)
set_option linter.unusedVariables false
set_option linter.unusedSimpArgs false

set_option maxRecDepth 100000 in
set_option maxHeartbeats 16000000 in
theorem parts_walk (l : List ByteArray) (s t : ByteArray) (w : World) (v : Value) (h : TextsAt w v l) (hs : s.size ≤ maxLen) (htl : t.size ≤ maxLen) {Bt : Nat} (ht : Tab Bt w) (hBt : Bt ≤ w.heap.size) :
    Calls Tryd.prog 4 #[v, .string s, .string t] w fun e w' => e = .returned (.bool true) ∧ Below w.heap.size w w' := by
  have HT := hid h
  have HTab := hid ht
  have KW := hid (works w ht hBt)
  unfold maxLen at hs htl
  clear h ht
  go_enter Tryd.func4, Tryd.ntmps4
  go_wp2_with fail
  refine KW.out.mono ?_
  rintro e w1 ⟨rfl, hb1⟩
  have HT1 := hid (HT.out.below hb1)
  have HB1 := hid hb1
  have KO := hid (over_any l w1 v HT1.out)
  clear hb1
  go_wp2_with fail
  refine KO.out.mono ?_
  rintro e w9 ⟨rfl, rfl⟩
  cases hov : overB l with
  | true =>
    go_wp2_with fail
    go_ret
    exact ⟨rfl, HB1.out⟩
  | false =>
    have hl8 := over_few hov
    clear hov
    by_cases hs40 : (40 : Int) < (s.size : Int)
    · go_wp2_with fail
      go_ret
      exact ⟨rfl, HB1.out⟩
    by_cases ht40 : (40 : Int) < (t.size : Int)
    · go_wp2_with fail
      go_ret
      exact ⟨rfl, HB1.out⟩
    have KP := hid (parsed_any l w9 v HT1.out (by omega))
    go_wp2_with fail
    refine KP.out.mono ?_
    rintro e w2 ⟨rv, rfl, hrow, hb2⟩
    have hlen : (treesOf l).length ≤ 8 := Nat.le_trans (List.length_filterMap_le _ _) hl8
    have HSZ := hid (trees_size l)
    have HB2 := hid (HB1.out.trans (hb2.mono HB1.out.size))
    have KB := hid (dfa_build_any (treesOf l) w2 rv (RowR.ofRow hrow) HSZ.out (by omega) (HTab.out.on (HB2.out.mono hBt)) (Nat.le_trans hBt HB2.out.size))
    generalize treesOf l = L at *
    clear hrow hb2
    go_wp2_with fail
    refine KB.out.mono ?_
    rintro e w3 ⟨hb3, ⟨hm, rfl⟩ | ⟨D, SS, A0, nv, tv, _, rfl, hA0, hS, hD⟩⟩
    · have HNB := hid (new_block w3 (.cells dvz 30))
      obtain ⟨w4, e4⟩ : ∃ w4, (w3.alloc (.cells dvz 30)).setRow w3.heap.size dvz = w4 := ⟨_, rfl⟩
      have hb4 : Below w3.heap.size w3 w4 := by rw [← e4]; exact ans_below (w0 := w3) ((Below.refl _ _).alloc (Nat.le_refl _) _) (Nat.le_refl _)
      have HB4 := hid (HB2.out.trans ((hb3.trans (hb4.mono hb3.size)).mono HB2.out.size))
      clear hm hb3 hb4
      go_wp2_with (first | (with_reducible refine wpList_made30 rfl rfl ?_) | (with_reducible refine wpList_store30 rfl (.tmp 8) (.tmp 34) rfl w3.heap.size rfl dvz dvz HNB.out rfl dvz_size dvz_size dvz_one ?_))
      clear e4
      go_ret
      exact ⟨rfl, HB4.out⟩
    · obtain ⟨no, nc, hno, _⟩ := hD.rows
      obtain ⟨to, tc, hto, htags⟩ := hD.tags
      have hcl : D.cls.length = 256 := hD.len
      obtain ⟨dc, hdc⟩ : ∃ dc, dval D nv tv = dc := ⟨_, rfl⟩
      rw [hdc]
      have hDC : D.next ≠ [] := by
        intro e
        have h1 := hS.nlen
        have h2 := (List.getElem?_eq_some_iff.1 hS.begin_).1
        rw [← h1, e] at h2
        simp at h2
      have HS1 := hid (show dc.size = 258 from by rw [← hdc]; simp [dval, ivs, hcl])
      have HS2 := hid (show dc.all (·.oneCell') = true from by rw [← hdc]; exact dval_one D (nv := nv) (tv := tv) (by rw [hno]; rfl) (by rw [hto]; rfl))
      have HNB := hid (new_block w3 (.cells dvz 30))
      obtain ⟨w4, e4⟩ : ∃ w4, (w3.alloc (.cells dvz 30)).setRow w3.heap.size dc = w4 := ⟨_, rfl⟩
      have hd4 : w4.heap[w3.heap.size]? = some (.cells dc 30 (0, 0)) := by rw [← e4]; exact setRow_heap _ _ dvz _ 30 (0, 0) HNB.out
      have hb4 : Below w3.heap.size w3 w4 := by rw [← e4]; exact ans_below (w0 := w3) ((Below.refl _ _).alloc (Nat.le_refl _) _) (Nat.le_refl _)
      have HB4 := hid (HB2.out.trans ((hb3.trans (hb4.mono hb3.size)).mono HB2.out.size))
      have hlt4 : w3.heap.size < w4.heap.size := (Array.getElem?_eq_some_iff.1 hd4).1
      have HD4 := hid (And.intro hd4 (hD.below hb4))
      have HTL := hid (And.intro hDC (hS.tlen.trans hS.nlen.symm))
      have c258 := dcell_tags hcl nv tv
      rw [hdc, hto] at c258
      have HC2 := hid c258
      have hdc2 := hdc
      have HDC := hid hdc2
      have HTO := hid hto
      clear hb3 hb4 hd4 hS hA0 hD hno hcl hdc hdc2 htags hDC c258
      go_wp2_with (first | (with_reducible refine wpList_made30 rfl rfl ?_) | (with_reducible refine wpList_store30 rfl (.tmp 8) (.tmp 34) rfl w3.heap.size rfl dvz dc HNB.out rfl dvz_size HS1.out HS2.out ?_))
      clear e4 HNB
      go_loopw [10, 11] (fun t10 t11 wr => ∃ k : Nat, k ≤ s.size ∧ t10 = .int .i64 (X5.goX D ((LL s).take k) 0) ∧ t11 = .int .i64 (k : Int) ∧ Hid (Below w4.heap.size w4 wr)) (fun _ t11 _ => s.size - (RowKit.intOf t11).toNat)
      case atStart => exact ⟨0, Nat.zero_le _, rfl, rfl, hid (Below.refl _ _)⟩
      case round =>

        obtain ⟨k, hk, rfl, rfl, HB⟩ := hrel
        by_cases hlt : k < s.size
        · have h1 : (k : Int) < (s.size : Int) := by omega
          have h2 : (0 : Int) ≤ (k : Int) := by omega
          have hx : (s[k]'hlt).toNat < 256 := (s[k]'hlt).toNat_lt
          have HDr := hid (HD4.out.2.below HB.out)
          have HHr := hid ((HB.out.block _ hlt4).trans HD4.out.1)
          obtain ⟨z, hz⟩ : ∃ z, X5.goX D ((LL s).take k) 0 = z := ⟨_, rfl⟩
          have HG := hid (go_byte D s k hlt 0)
          rw [hz] at HG ⊢
          have KG := fun (w' : World) (hb : Below wr.heap.size wr w') => go_any (HDr.out.below hb) z (s[k]'hlt).toNat hx
          rw [HDC.out] at KG
          have HKG := hid KG
          clear hz KG
          go_wp2_with fail
          refine region_T 6 (fun w' => w'.heap[w3.heap.size]? = some (.cells dc 30 (0, 0))) (by kernel_rfl) HHr.out (fun inv hHeld => ?_)

          refine anyT_take (i := 0) (oi := { dst := some 45, op := Op.load 30 (Operand.tmp 8), type := 30, pos := "law.go:115", after := #[], guard := none }) (v := .agg dc) rfl (by kernel_rfl) (by kernel_rfl) (by kernel_rfl) (by decide) (by decide) (by kernel_rfl) (by kernel_rfl) (fun _ _ _ h => h) (Or.inl ⟨by rfl, fun w hSw => exec_load30 (.tmp 8) rfl w3.heap.size rfl dc hSw HS1.out⟩) hHeld inv (fun inv => ?_)
          simp only [Act.put, List.setIfInBounds_toArray, List.set_cons_zero, List.set_cons_succ]

          refine anyT_take (i := 1) (oi := { dst := some 46, op := Op.move (Operand.tmp 10), type := 3, pos := "law.go:115", after := #[], guard := none }) (v := ?_) rfl (by kernel_rfl) (by kernel_rfl) (by kernel_rfl) (by decide) (by decide) (by kernel_rfl) (by kernel_rfl) (fun _ _ _ h => h) (Or.inl ⟨by rfl, ?_⟩) hHeld inv (fun inv => ?_)
          rotate_left
          · intro w hSw
            try dsimp only at hSw
            go_simp
            try with_reducible rfl
          simp only [Act.put, List.setIfInBounds_toArray, List.set_cons_zero, List.set_cons_succ]
          refine anyT_take (i := 2) (oi := { dst := some 47, op := Op.move (Operand.tmp 1), type := 9, pos := "law.go:115", after := #[], guard := none }) (v := ?_) rfl (by kernel_rfl) (by kernel_rfl) (by kernel_rfl) (by decide) (by decide) (by kernel_rfl) (by kernel_rfl) (fun _ _ _ h => h) (Or.inl ⟨by rfl, ?_⟩) hHeld inv (fun inv => ?_)
          rotate_left
          · intro w hSw
            try dsimp only at hSw
            go_simp
            try with_reducible rfl
          simp only [Act.put, List.setIfInBounds_toArray, List.set_cons_zero, List.set_cons_succ]
          refine anyT_take (i := 3) (oi := { dst := some 48, op := Op.move (Operand.tmp 11), type := 3, pos := "law.go:115", after := #[], guard := none }) (v := ?_) rfl (by kernel_rfl) (by kernel_rfl) (by kernel_rfl) (by decide) (by decide) (by kernel_rfl) (by kernel_rfl) (fun _ _ _ h => h) (Or.inl ⟨by rfl, ?_⟩) hHeld inv (fun inv => ?_)
          rotate_left
          · intro w hSw
            try dsimp only at hSw
            go_simp
            try with_reducible rfl
          simp only [Act.put, List.setIfInBounds_toArray, List.set_cons_zero, List.set_cons_succ]
          refine anyT_take (i := 4) (oi := { dst := some 49, op := Op.index 9 (Operand.tmp 47) (Operand.tmp 48), type := 5, pos := "law.go:115", after := #[{ on := 2, ground := Ground.data }, { on := 3, ground := Ground.data }], guard := none }) (v := ?_) rfl (by kernel_rfl) (by kernel_rfl) (by kernel_rfl) (by decide) (by decide) (by kernel_rfl) (by kernel_rfl) (fun _ _ _ h => h) (Or.inl ⟨by rfl, ?_⟩) hHeld inv (fun inv => ?_)
          rotate_left
          · intro w hSw
            try dsimp only at hSw
            go_simp
            try with_reducible rfl
          simp only [Act.put, List.setIfInBounds_toArray, List.set_cons_zero, List.set_cons_succ]

          refine anyT_next (i := 5) (o := { dst := some 50, op := Op.call { callee := Callee.value (Operand.func 17), args := #[Operand.tmp 45, Operand.tmp 46, Operand.tmp 49], argTypes := #[30, 3, 5] }, type := 3, pos := "law.go:115", after := #[{ on := 0, ground := Ground.data }, { on := 1, ground := Ground.data }, { on := 4, ground := Ground.data }], guard := none }) (by kernel_rfl) rfl (by decide) inv (fun inv K' hK => ?_)
          go_simp

          refine (HKG.out wr.drew (Below.refl _ _).drew).mono ?_
          rintro e w5 ⟨rfl, hb5⟩
          have HH5 := hid ((hb5.block w3.heap.size (Nat.lt_of_lt_of_le hlt4 HB.out.size)).trans HHr.out)
          have HB5 := hid (HB.out.trans (((Below.refl _ wr).drew.trans hb5).mono HB.out.size))
          clear hb5
          go_wp2_with fail
          refine hK.out _ _ HH5.out ?_
          clear hK K'
          try simp only [Act.put, List.setIfInBounds_toArray, List.set_cons_zero, List.set_cons_succ]

          refine anyT_one (i := 6) (o := { dst := some 10, op := Op.assign (Operand.tmp 50), type := 3, pos := "law.go:115", after := #[{ on := 5, ground := Ground.data }, { on := 5, ground := Ground.chain }, { on := 0, ground := Ground.phase }, { on := 1, ground := Ground.phase }, { on := 2, ground := Ground.phase }, { on := 3, ground := Ground.phase }, { on := 4, ground := Ground.phase }, { on := 5, ground := Ground.phase }], guard := none }) (by kernel_rfl) rfl (fun K' hK => ?_)
          go_simp
          refine hK.out _ _ (fun h => absurd h (by decide)) ?_
          clear hK K'
          try simp only [Act.put, List.setIfInBounds_toArray, List.set_cons_zero, List.set_cons_succ]
          refine anyT_done (by kernel_rfl) ?_ _

          clear hHeld inv
          go_wp2_with fail
          refine ⟨⟨k + 1, by omega, by rw [HG.out], rfl, HB5⟩, ?_⟩
          show s.size - ((k : Int) + 1).toNat < s.size - ((k : Int)).toNat
          omega
        · have h1 : ¬ (k : Int) < (s.size : Int) := by omega
          obtain rfl : k = s.size := by omega
          rw [LL_all]
          have HDr := hid (HD4.out.2.below HB.out)
          have HHr := hid ((HB.out.block _ hlt4).trans HD4.out.1)
          have HBr := hid (HB4.out.trans (HB.out.mono HB4.out.size))
          have hltr := Nat.lt_of_lt_of_le hlt4 HB.out.size
          have KR := run_dfa HDr.out
          rw [HDC.out] at KR
          have HKR := hid (KR (s ++ t) (by rw [ByteArray.size_append]; omega))
          have HKS := hid fun (w' : World) (hb : Below wr.heap.size wr w') => (by have := run_dfa (HDr.out.below hb) s (by omega); rw [HDC.out] at this; exact this : Calls Tryd.prog 15 #[.agg dc, .string s] w' fun e w'' => e = .returned (.int .u64 (X5.runX D (LL s) : Int)) ∧ Below w'.heap.size w' w'')
          clear KR
          obtain ⟨z, hz⟩ : ∃ z, X5.goX D (LL s) 0 = z := ⟨_, rfl⟩
          rw [hz]
          by_cases hz0 : z < 0
          · have hrun : X5.runX D (LL (s ++ t)) = 0 := by
              rw [LL_app]
              refine X5.run_neg D _ ?_
              rw [X5.goX_app, hz]
              exact X5.go_neg D _ _ hz0
            rw [hrun] at HKR
            clear hz hrun HKS
            go_wp2_with fail
            refine wp_load30 (.tmp 8) rfl w3.heap.size rfl dc HHr.out HS1.out ?_
            go_wp2_with fail
            refine HKR.out.mono ?_
            rintro e w6 ⟨rfl, hb6⟩
            have HB6 := hid (HBr.out.trans (hb6.mono HBr.out.size))
            clear hb6
            go_wp2_with fail
            go_ret
            exact ⟨rfl, HB6.out⟩
          · obtain ⟨i, rfl⟩ : ∃ i : Nat, z = (i : Int) := ⟨z.toNat, by omega⟩
            have hi0 : ¬ (i : Int) < 0 := by omega
            have hi1 : (0 : Int) ≤ (i : Int) := by omega
            obtain ⟨hi, hrun⟩ := X5.run_go D HTL.out.2 HTL.out.1 (LL s) hz
            have hi2 : (i : Int) < (D.tags.length : Int) := by omega
            rw [hrun] at HKS
            obtain ⟨tb, off, tc, ht1, ht2, ht3, ht4⟩ := tag_cells HDr.out HDC.out HHr.out hi
            have HZ := hid hz
            generalize D.tags.getD i 0 = T at *
            clear hz hrun HKR
            go_wp2_with fail
            refine region_T 8 (fun w' => w'.heap[w3.heap.size]? = some (.cells dc 30 (0, 0)) ∧ w'.cell? ⟨w3.heap.size, 257, none⟩ = some (.slice (some ⟨tb, off, none⟩) D.tags.length tc) ∧ w'.cell? ⟨tb, off + i, none⟩ = some (.int .u64 (T : Int))) (by kernel_rfl) ⟨HHr.out, ht1, ht3⟩ (fun inv hHeld => ?_)

            refine anyT_take (i := 0) (oi := { dst := some 62, op := Op.load 30 (Operand.tmp 8), type := 30, pos := "law.go:120", after := #[], guard := none }) (v := .agg dc) rfl (by kernel_rfl) (by kernel_rfl) (by kernel_rfl) (by decide) (by decide) (by kernel_rfl) (by kernel_rfl) (fun _ _ _ h => h) (Or.inl ⟨by rfl, fun w hSw => exec_load30 (.tmp 8) rfl w3.heap.size rfl dc hSw.1 HS1.out⟩) hHeld inv (fun inv => ?_)
            simp only [Act.put, List.setIfInBounds_toArray, List.set_cons_zero, List.set_cons_succ]

            refine anyT_take (i := 1) (oi := { dst := some 63, op := Op.move (Operand.tmp 1), type := 9, pos := "law.go:120", after := #[], guard := none }) (v := ?_) rfl (by kernel_rfl) (by kernel_rfl) (by kernel_rfl) (by decide) (by decide) (by kernel_rfl) (by kernel_rfl) (fun _ _ _ h => h) (Or.inl ⟨by rfl, ?_⟩) hHeld inv (fun inv => ?_)
            rotate_left
            · intro w hSw
              try dsimp only at hSw
              go_simp
              try with_reducible rfl
            simp only [Act.put, List.setIfInBounds_toArray, List.set_cons_zero, List.set_cons_succ]
            refine anyT_take (i := 3) (oi := { dst := some 65, op := Op.fieldAddr 30 (Operand.tmp 8) 2, type := 0, pos := "law.go:120", after := #[], guard := none }) (v := ?_) rfl (by kernel_rfl) (by kernel_rfl) (by kernel_rfl) (by decide) (by decide) (by kernel_rfl) (by kernel_rfl) (fun _ _ _ h => h) (Or.inl ⟨by rfl, ?_⟩) hHeld inv (fun inv => ?_)
            rotate_left
            · intro w hSw
              try dsimp only at hSw
              go_simp
              try with_reducible rfl
            simp only [Act.put, List.setIfInBounds_toArray, List.set_cons_zero, List.set_cons_succ]
            refine anyT_take (i := 4) (oi := { dst := some 66, op := Op.load 28 (Operand.tmp 65), type := 28, pos := "law.go:120", after := #[{ on := 3, ground := Ground.data }], guard := none }) (v := ?_) rfl (by kernel_rfl) (by kernel_rfl) (by kernel_rfl) (by decide) (by decide) (by kernel_rfl) (by kernel_rfl) (fun _ _ _ h => h) (Or.inl ⟨by rfl, ?_⟩) hHeld inv (fun inv => ?_)
            rotate_left
            · intro w hSw
              try dsimp only at hSw
              go_simp
              try with_reducible rfl
            simp only [Act.put, List.setIfInBounds_toArray, List.set_cons_zero, List.set_cons_succ]
            refine anyT_take (i := 5) (oi := { dst := some 67, op := Op.move (Operand.tmp 10), type := 3, pos := "law.go:120", after := #[], guard := none }) (v := ?_) rfl (by kernel_rfl) (by kernel_rfl) (by kernel_rfl) (by decide) (by decide) (by kernel_rfl) (by kernel_rfl) (fun _ _ _ h => h) (Or.inl ⟨by rfl, ?_⟩) hHeld inv (fun inv => ?_)
            rotate_left
            · intro w hSw
              try dsimp only at hSw
              go_simp
              try with_reducible rfl
            simp only [Act.put, List.setIfInBounds_toArray, List.set_cons_zero, List.set_cons_succ]
            refine anyT_take (i := 6) (oi := { dst := some 68, op := Op.indexAddr 28 (Operand.tmp 66) (Operand.tmp 67), type := 0, pos := "law.go:120", after := #[{ on := 4, ground := Ground.data }, { on := 5, ground := Ground.data }], guard := none }) (v := ?_) rfl (by kernel_rfl) (by kernel_rfl) (by kernel_rfl) (by decide) (by decide) (by kernel_rfl) (by kernel_rfl) (fun _ _ _ h => h) (Or.inl ⟨by rfl, ?_⟩) hHeld inv (fun inv => ?_)
            rotate_left
            · intro w hSw
              try dsimp only at hSw
              go_simp
              try with_reducible rfl
            simp only [Act.put, List.setIfInBounds_toArray, List.set_cons_zero, List.set_cons_succ]
            refine anyT_take (i := 7) (oi := { dst := some 69, op := Op.load 43 (Operand.tmp 68), type := 43, pos := "law.go:120", after := #[{ on := 6, ground := Ground.data }], guard := none }) (v := ?_) rfl (by kernel_rfl) (by kernel_rfl) (by kernel_rfl) (by decide) (by decide) (by kernel_rfl) (by kernel_rfl) (fun _ _ _ h => h) (Or.inl ⟨by rfl, ?_⟩) hHeld inv (fun inv => ?_)
            rotate_left
            · intro w hSw
              try dsimp only at hSw
              go_simp
              try with_reducible rfl
            simp only [Act.put, List.setIfInBounds_toArray, List.set_cons_zero, List.set_cons_succ]

            refine anyT_next (i := 2) (o := { dst := some 64, op := Op.call { callee := Callee.value (Operand.func 15), args := #[Operand.tmp 62, Operand.tmp 63], argTypes := #[30, 9] }, type := 43, pos := "law.go:120", after := #[{ on := 0, ground := Ground.data }, { on := 1, ground := Ground.data }], guard := none }) (by kernel_rfl) rfl (by decide) inv (fun inv K' hK => ?_)
            go_simp

            refine (HKS.out wr.drew (Below.refl _ _).drew).mono ?_
            rintro e w6 ⟨rfl, hb6⟩
            have HB6 := hid ((Below.refl _ wr).drew.trans hb6)
            have HH6 := hid ((hb6.block w3.heap.size hltr).trans HHr.out)
            have ht5 := (World.cell?_of_block (a := ⟨w3.heap.size, 257, none⟩) (hb6.block w3.heap.size hltr)).trans ht1
            have ht6 := (World.cell?_of_block (a := ⟨tb, off + i, none⟩) (hb6.block tb ht2)).trans ht3
            clear hb6
            go_wp2_with fail
            refine hK.out _ _ ⟨HH6.out, ht5, ht6⟩ ?_
            clear hK K'
            try simp only [Act.put, List.setIfInBounds_toArray, List.set_cons_zero, List.set_cons_succ]

            refine anyT_one (i := 8) (o := { dst := some 70, op := Op.binOp BinOp.neq 43 (Operand.tmp 64) (Operand.tmp 69) 43, type := 4, pos := "law.go:120", after := #[{ on := 2, ground := Ground.data }, { on := 7, ground := Ground.data }], guard := none }) (by kernel_rfl) rfl (fun K' hK => ?_)
            go_simp
            refine hK.out _ _ (fun h => absurd h (by decide)) ?_
            clear hK K'
            try simp only [Act.put, List.setIfInBounds_toArray, List.set_cons_zero, List.set_cons_succ]
            refine anyT_done (by kernel_rfl) ?_ _

            clear hHeld inv ht1 ht2 ht3 ht4 ht5 ht6
            have HD6 := hid (HDr.out.below HB6.out)
            have HBw := hid (HBr.out.trans (HB6.out.mono HBr.out.size))
            have hlt6 := Nat.lt_of_lt_of_le hltr HB6.out.size
            clear HB6 HDr HHr HBr hltr HKS hlt4 HD4 HB
            go_wp2_with fail
            go_loopw [10, 12] (fun t10 t11 wr => ∃ k : Nat, k ≤ t.size ∧ t10 = .int .i64 (X5.goX D ((LL t).take k) (i : Int)) ∧ t11 = .int .i64 (k : Int) ∧ Hid (Below w6.heap.size w6 wr)) (fun _ t11 _ => t.size - (RowKit.intOf t11).toNat)
            case atStart => exact ⟨0, Nat.zero_le _, rfl, rfl, hid (Below.refl _ _)⟩
            case round =>
              obtain ⟨k, hk, rfl, rfl, HB⟩ := hrel
              by_cases hlt : k < t.size
              · have h1 : (k : Int) < (t.size : Int) := by omega
                have h2 : (0 : Int) ≤ (k : Int) := by omega
                have hx : (t[k]'hlt).toNat < 256 := (t[k]'hlt).toNat_lt
                have HDr := hid (HD6.out.below HB.out)
                have HHr := hid ((HB.out.block _ hlt6).trans HH6.out)
                obtain ⟨z, hz⟩ : ∃ z, X5.goX D ((LL t).take k) (i : Int) = z := ⟨_, rfl⟩
                have HG := hid (go_byte D t k hlt (i : Int))
                rw [hz] at HG ⊢
                have KG := fun (w' : World) (hb : Below wr.heap.size wr w') => go_any (HDr.out.below hb) z (t[k]'hlt).toNat hx
                rw [HDC.out] at KG
                have HKG := hid KG
                clear hz KG
                go_wp2_with fail
                refine region_T 6 (fun w' => w'.heap[w3.heap.size]? = some (.cells dc 30 (0, 0))) (by kernel_rfl) HHr.out (fun inv hHeld => ?_)

                refine anyT_take (i := 0) (oi := { dst := some 77, op := Op.load 30 (Operand.tmp 8), type := 30, pos := "law.go:124", after := #[], guard := none }) (v := .agg dc) rfl (by kernel_rfl) (by kernel_rfl) (by kernel_rfl) (by decide) (by decide) (by kernel_rfl) (by kernel_rfl) (fun _ _ _ h => h) (Or.inl ⟨by rfl, fun w hSw => exec_load30 (.tmp 8) rfl w3.heap.size rfl dc hSw HS1.out⟩) hHeld inv (fun inv => ?_)
                simp only [Act.put, List.setIfInBounds_toArray, List.set_cons_zero, List.set_cons_succ]

                refine anyT_take (i := 1) (oi := { dst := some 78, op := Op.move (Operand.tmp 10), type := 3, pos := "law.go:124", after := #[], guard := none }) (v := ?_) rfl (by kernel_rfl) (by kernel_rfl) (by kernel_rfl) (by decide) (by decide) (by kernel_rfl) (by kernel_rfl) (fun _ _ _ h => h) (Or.inl ⟨by rfl, ?_⟩) hHeld inv (fun inv => ?_)
                rotate_left
                · intro w hSw
                  try dsimp only at hSw
                  go_simp
                  try with_reducible rfl
                simp only [Act.put, List.setIfInBounds_toArray, List.set_cons_zero, List.set_cons_succ]
                refine anyT_take (i := 2) (oi := { dst := some 79, op := Op.move (Operand.tmp 2), type := 9, pos := "law.go:124", after := #[], guard := none }) (v := ?_) rfl (by kernel_rfl) (by kernel_rfl) (by kernel_rfl) (by decide) (by decide) (by kernel_rfl) (by kernel_rfl) (fun _ _ _ h => h) (Or.inl ⟨by rfl, ?_⟩) hHeld inv (fun inv => ?_)
                rotate_left
                · intro w hSw
                  try dsimp only at hSw
                  go_simp
                  try with_reducible rfl
                simp only [Act.put, List.setIfInBounds_toArray, List.set_cons_zero, List.set_cons_succ]
                refine anyT_take (i := 3) (oi := { dst := some 80, op := Op.move (Operand.tmp 12), type := 3, pos := "law.go:124", after := #[], guard := none }) (v := ?_) rfl (by kernel_rfl) (by kernel_rfl) (by kernel_rfl) (by decide) (by decide) (by kernel_rfl) (by kernel_rfl) (fun _ _ _ h => h) (Or.inl ⟨by rfl, ?_⟩) hHeld inv (fun inv => ?_)
                rotate_left
                · intro w hSw
                  try dsimp only at hSw
                  go_simp
                  try with_reducible rfl
                simp only [Act.put, List.setIfInBounds_toArray, List.set_cons_zero, List.set_cons_succ]
                refine anyT_take (i := 4) (oi := { dst := some 81, op := Op.index 9 (Operand.tmp 79) (Operand.tmp 80), type := 5, pos := "law.go:124", after := #[{ on := 2, ground := Ground.data }, { on := 3, ground := Ground.data }], guard := none }) (v := ?_) rfl (by kernel_rfl) (by kernel_rfl) (by kernel_rfl) (by decide) (by decide) (by kernel_rfl) (by kernel_rfl) (fun _ _ _ h => h) (Or.inl ⟨by rfl, ?_⟩) hHeld inv (fun inv => ?_)
                rotate_left
                · intro w hSw
                  try dsimp only at hSw
                  go_simp
                  try with_reducible rfl
                simp only [Act.put, List.setIfInBounds_toArray, List.set_cons_zero, List.set_cons_succ]

                refine anyT_next (i := 5) (o := { dst := some 82, op := Op.call { callee := Callee.value (Operand.func 17), args := #[Operand.tmp 77, Operand.tmp 78, Operand.tmp 81], argTypes := #[30, 3, 5] }, type := 3, pos := "law.go:124", after := #[{ on := 0, ground := Ground.data }, { on := 1, ground := Ground.data }, { on := 4, ground := Ground.data }], guard := none }) (by kernel_rfl) rfl (by decide) inv (fun inv K' hK => ?_)
                go_simp

                refine (HKG.out wr.drew (Below.refl _ _).drew).mono ?_
                rintro e w5 ⟨rfl, hb5⟩
                have HH5 := hid ((hb5.block w3.heap.size (Nat.lt_of_lt_of_le hlt6 HB.out.size)).trans HHr.out)
                have HB5 := hid (HB.out.trans (((Below.refl _ wr).drew.trans hb5).mono HB.out.size))
                clear hb5
                go_wp2_with fail
                refine hK.out _ _ HH5.out ?_
                clear hK K'
                try simp only [Act.put, List.setIfInBounds_toArray, List.set_cons_zero, List.set_cons_succ]

                refine anyT_one (i := 6) (o := { dst := some 10, op := Op.assign (Operand.tmp 82), type := 3, pos := "law.go:124", after := #[{ on := 5, ground := Ground.data }, { on := 5, ground := Ground.chain }, { on := 0, ground := Ground.phase }, { on := 1, ground := Ground.phase }, { on := 2, ground := Ground.phase }, { on := 3, ground := Ground.phase }, { on := 4, ground := Ground.phase }, { on := 5, ground := Ground.phase }], guard := none }) (by kernel_rfl) rfl (fun K' hK => ?_)
                go_simp
                refine hK.out _ _ (fun h => absurd h (by decide)) ?_
                clear hK K'
                try simp only [Act.put, List.setIfInBounds_toArray, List.set_cons_zero, List.set_cons_succ]
                refine anyT_done (by kernel_rfl) ?_ _

                clear hHeld inv
                go_wp2_with fail
                refine ⟨⟨k + 1, by omega, by rw [HG.out], rfl, HB5⟩, ?_⟩
                show t.size - ((k : Int) + 1).toNat < t.size - ((k : Int)).toNat
                omega
              · have h1 : ¬ (k : Int) < (t.size : Int) := by omega
                obtain rfl : k = t.size := by omega
                rw [LL_all]
                have HDr := hid (HD6.out.below HB.out)
                have HHr := hid ((HB.out.block _ hlt6).trans HH6.out)
                have HBr := hid (HBw.out.trans (HB.out.mono HBw.out.size))
                have KR := run_dfa HDr.out
                rw [HDC.out] at KR
                have HKR := hid (KR (s ++ t) (by rw [ByteArray.size_append]; omega))
                clear KR
                have hgo : X5.goX D (LL (s ++ t)) 0 = X5.goX D (LL t) (i : Int) := by rw [LL_app, X5.goX_app, HZ.out]
                obtain ⟨z, hz⟩ : ∃ z, X5.goX D (LL t) (i : Int) = z := ⟨_, rfl⟩
                rw [hz] at hgo ⊢
                by_cases hz0 : z < 0
                · have hrun : X5.runX D (LL (s ++ t)) = 0 := X5.run_neg D _ (by rw [hgo]; exact hz0)
                  have hz1 : ¬ (0 : Int) ≤ z := by omega
                  rw [hrun] at HKR
                  clear hz hgo hrun
                  go_wp2_with fail
                  refine wp_load30 (.tmp 8) rfl w3.heap.size rfl dc HHr.out HS1.out ?_
                  go_wp2_with fail
                  refine HKR.out.mono ?_
                  rintro e w7 ⟨rfl, hb7⟩
                  have HB7 := hid (HBr.out.trans (hb7.mono HBr.out.size))
                  clear hb7
                  go_wp2_with fail
                  go_ret
                  exact ⟨rfl, HB7.out⟩
                · obtain ⟨j, rfl⟩ : ∃ j : Nat, z = (j : Int) := ⟨z.toNat, by omega⟩
                  have hj1 : (0 : Int) ≤ (j : Int) := by omega
                  obtain ⟨hj, hrun⟩ := X5.run_go D HTL.out.2 HTL.out.1 (LL (s ++ t)) hgo
                  have hj2 : (j : Int) < (D.tags.length : Int) := by omega
                  rw [hrun] at HKR
                  obtain ⟨tb, off, tc, ht1, ht2, ht3, ht4⟩ := tag_cells HDr.out HDC.out HHr.out hj
                  generalize D.tags.getD j 0 = T2 at *
                  clear hz hgo hrun
                  go_wp2_with fail
                  refine wp_load30 (.tmp 8) rfl w3.heap.size rfl dc HHr.out HS1.out ?_
                  go_wp2_with fail
                  refine HKR.out.mono ?_
                  rintro e w7 ⟨rfl, hb7⟩
                  have HB7 := hid (HBr.out.trans (hb7.mono HBr.out.size))
                  clear hb7
                  go_wp2_with fail
                  go_ret
                  exact ⟨rfl, HB7.out⟩

end Go.Proofs.YtochckefnjobhaaDoor