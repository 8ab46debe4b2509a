/- MiniNone: the walk. -/
import Derived.Test.YtochckefnjobhaaDoorLb
import Derived.Test.YtochckefnjobhaaDoorKx
namespace Go.Proofs.YtochckefnjobhaaDoor
open Go Go.RowKit Go.Lib
open X5 (Aut)
set_option linter.unusedVariables false
set_option linter.unusedSimpArgs false

/-- Its tags, all nothing: is it one that may be? -/
theorem vd_none {D : Aut} (h : X6.Vd D) (n : Nat) (hn : D.next.length = n) : X6.Vd ⟨D.cls, D.next, List.replicate n 0⟩ :=
  ⟨⟨h.ok.some_, by simp [hn], h.ok.rows, h.ok.ends⟩, h.cls⟩
theorem vd_more {D : Aut} (h : X6.Vd D) (t : Nat) : X6.Vd ⟨D.cls, D.next ++ [List.replicate (X5.rowOf D 0).length 0], D.tags ++ [t]⟩ := by
  have hp := List.length_pos_iff.2 h.ok.some_
  have e : X5.rowOf ⟨D.cls, D.next ++ [List.replicate (X5.rowOf D 0).length 0], D.tags ++ [t]⟩ 0 = X5.rowOf D 0 := X6.getD_app hp
  refine ⟨?_, fun c hc => ?_⟩
  · rw [e]; exact X6.more_ok h.ok t
  · rw [e]; exact h.cls c hc

set_option maxRecDepth 100000 in
set_option maxHeartbeats 16000000 in
theorem none_walk {D : Aut} {d0 : Array Value} {t0 : Nat} (w : World) (hL : Lies D d0 w) (ht1 : t0 < 18446744073709551616) {Bt : Nat} (ht : Tab Bt w) (hBt : Bt ≤ w.heap.size) :
    Calls Tryd.prog 8 #[.agg d0, .int .u64 (t0 : Int)] w fun e w' => e = .returned (.bool true) ∧ Below w.heap.size w w' := by
  obtain ⟨wa, ea, hxa, hba⟩ := boxed w d0
  have HL := hid (hL.below hba)
  have HX := hid hxa
  have HB := hid hba
  have HTT := hid ht1
  have K := hid (works06 wa (ht.on (hba.mono hBt)) (Nat.le_trans hBt hba.size))
  obtain ⟨h11, h12, h13, h14⟩ := hL.sz
  have HD := hid (And.intro h11 (And.intro h12 (And.intro h13 h14)))
  clear hL ht hxa hba h11 h12 h13 h14 ht1
  go_enter Tryd.func8, Tryd.ntmps8
  go_wp2_with fail
  refine K.out.mono ?_
  rintro e w1 ⟨rfl, hb⟩
  clear K ea
  have HB1 := hid (HB.out.trans (hb.mono HB.out.size))
  have HL := hid (HL.out.below hb)
  have HX := hid (HX.out.below hb)
  have K := hid (little_at HL.out)
  clear hb
  go_wp2_with fail
  refine wp_load30' (.tmp 2) rfl w.heap.size rfl d0 HX.out HD.out.1 ?_
  go_wp2_with fail
  refine K.out.mono ?_
  rintro e w2 ⟨b, rfl, hbl, hb⟩
  clear K
  have HB2 := hid (HB1.out.trans (hb.mono HB1.out.size))
  have HL := hid (HL.out.below hb)
  have HX := hid (HX.out.below hb)
  clear hb
  cases b with
  | false =>
    clear hbl
    go_wp2_with fail
    go_ret
    exact ⟨rfl, HB2.out⟩
  | true =>
    have HF := hid (X6.Lit.few (hbl.1 rfl))
    have HLT := hid (hbl.1 rfl)
    clear hbl
    by_cases hv : X6.Vd D
    rotate_left
    · have K := hid (valid_no HL.out HF.out hv)
      clear hv
      go_wp2_with fail
      refine wp_load30' (.tmp 2) rfl w.heap.size rfl d0 HX.out HD.out.1 ?_
      go_wp2_with fail
      refine K.out.mono ?_
      rintro e w3 ⟨rfl, hb⟩
      clear K
      have HB3 := hid (HB2.out.trans (hb.mono HB2.out.size))
      clear hb
      go_wp2_with fail
      go_ret
      exact ⟨rfl, HB3.out⟩
    · have HV := hid hv
      have K := hid (valid_yes HL.out HF.out hv)
      clear hv
      go_wp2_with fail
      refine wp_load30' (.tmp 2) rfl w.heap.size rfl d0 HX.out HD.out.1 ?_
      go_wp2_with fail
      refine K.out.mono ?_
      rintro e w3 ⟨rfl, hb⟩
      clear K
      have HB3 := hid (HB2.out.trans (hb.mono HB2.out.size))
      have HL := hid (HL.out.below hb)
      have HX := hid (HX.out.below hb)
      clear hb
      obtain ⟨nv, tv, hd0, hda⟩ := HL.out
      obtain ⟨cv, hcv⟩ : ∃ cv, ivs D.cls = cv := ⟨_, rfl⟩
      have hcs : cv.size = 256 := by rw [← hcv, ivs_size]; exact hda.len
      have hco : cv.all (·.oneCell') = true := by rw [← hcv]; exact ivs_one _
      have hdv : cv ++ #[nv, tv] = d0 := by rw [← hcv, hd0]
      have HD256 := hid (dcell_next hda.len nv tv)
      have HD257 := hid (dcell_tags hda.len nv tv)
      rw [← hd0] at HD256 HD257
      have HDA := hid hda
      have HCV := hid (And.intro hcv (And.intro hcs (And.intro hco hdv)))
      obtain ⟨no, nc, hno⟩ : ∃ no nc, nv = .slice no D.next.length nc := by
        obtain ⟨ro, rc, e, _⟩ := hda.rows
        exact ⟨ro, rc, e⟩
      obtain ⟨to, tc, hto⟩ : ∃ to tc, tv = .slice to D.tags.length tc := by
        obtain ⟨ro, rc, e, _⟩ := hda.tags
        exact ⟨ro, rc, e⟩
      subst hno hto
      obtain ⟨N, hNN⟩ : ∃ N, D.next.length = N := ⟨_, rfl⟩
      obtain ⟨Kk, hKK⟩ : ∃ Kk, (X5.rowOf D 0).length = Kk := ⟨_, rfl⟩
      have hOK := HV.out.ok
      rw [hKK] at hOK
      have HOK := hid hOK
      have hN := HF.out.1
      have hKb := HF.out.2.2.1
      rw [hNN] at hN
      rw [hKK] at hKb
      have hTT : D.tags.length = N := by rw [hOK.tags, hNN]
      have hNp : 0 < N := by rw [← hNN]; exact List.length_pos_iff.2 hOK.some_
      have HNN := hid (And.intro hNN (And.intro hKK (And.intro hTT hNp)))
      obtain ⟨w4, e4, hx4, hb4, hs4⟩ := kept_new w3 d0
      have HN3 := hid (new_block w3 (.cells dvz 30))
      have HWL := hid (show w.heap.size < w3.heap.size from Bxx.lt HX.out)
      have HX3 := hid (show w3.heap[w.heap.size]? = some (.cells d0 30 (0, 0)) from HX.out)
      have HX4 := hid (HX.out.below hb4)
      have HL4 := hid (HL.out.below hb4)
      have HB4 := hid (HB3.out.trans (hb4.mono HB3.out.size))
      have HY4 := hid hx4
      have c1 : w4.cell? ⟨w.heap.size, 257, none⟩ = some (.slice to N tc) := by rw [Lib.cell_of_heap HX4.out, HD257.out, hTT]
      have hmk := made_sets N hN w4
      obtain ⟨w5, e5⟩ : ∃ w5, w4.alloc (.cells (Array.replicate N (.int .u64 0)) 43) = w5 := ⟨_, rfl⟩
      have hb5 : Below w4.heap.size w4 w5 := by rw [← e5]; exact (Below.refl _ _).alloc (Nat.le_refl _) _
      have HN5 := hid (show w5.heap[w4.heap.size]? = some (.cells (Array.replicate N (.int .u64 0)) 43 (0, 0)) from by rw [← e5]; exact new_block _ _)
      have hY5 := HY4.out.below hb5
      have c2 : w5.cell? ⟨w3.heap.size, 257, none⟩ = some (.slice to N tc) := by rw [Lib.cell_of_heap hY5, HD257.out, hTT]
      have f2 := Lib.frozen_of_heap hY5 257
      have l2 := hY5.lt
      obtain ⟨w6, e6⟩ : ∃ w6, w5.setCell ⟨w3.heap.size, 257, none⟩ (.slice (some ⟨w4.heap.size, 0, none⟩) N N) = w6 := ⟨_, rfl⟩
      obtain ⟨d6, hd6⟩ : ∃ d6, cv ++ #[.slice no N nc, .slice (some ⟨w4.heap.size, 0, none⟩) N N] = d6 := ⟨_, rfl⟩
      have hx6 : Bxx w3.heap.size d6 w6 := by
        rw [← e6, ← hd6]
        show (w5.setCell _ _).heap[_]? = _
        rw [heap_setCell_same w5 w3.heap.size 257 d0 30 _ hY5, ← hdv, set_end hcs, hNN]
      have hb56 : Below w3.heap.size w5 w6 := by rw [← e6]; exact Below.setCell (p := ⟨w3.heap.size, 257, none⟩) (Below.refl w3.heap.size w5) (Nat.le_refl w3.heap.size) _
      have hb36 : Below w3.heap.size w3 w6 := (hb4.trans (hb5.mono hb4.size)).trans hb56
      have hn6 : w6.heap[w4.heap.size]? = some (.cells (Array.replicate N (.int .u64 0)) 43 (0, 0)) := by
        rw [← e6]
        have : w4.heap.size ≠ w3.heap.size := by omega
        exact (Below.heap_setCell w5 _ _ _ this).trans HN5.out
      have hL6 : Lies ⟨D.cls, D.next, List.replicate N 0⟩ d6 w6 := ⟨_, _, by rw [← hd6, ← hcv, hNN], none_at hda hb36 hNN hn6⟩
      have HL6 := hid hL6
      have HX6 := hid hx6
      have HS6 := hid hL6.sz
      have HV6 := hid (vd_none HV.out N hNN)
      have HF6 := hid (show X6.Few ⟨D.cls, D.next, List.replicate N 0⟩ from by
        obtain ⟨f1, f2, f3, f4⟩ := HF.out
        exact ⟨f1, by simpa using hN, f3, f4⟩)
      have HB6 := hid (HB3.out.trans (hb36.mono HB3.out.size))
      have HW36 := hid hb36
      have HX := hid (HX.out.below hb36)
      have HL := hid (HL.out.below hb36)
      have HD6 := hid hd6
      have K := hid (least_yes HL6.out HF6.out HV6.out)
      clear hda hcs hco hcv hdv hd0 hNN hKK hOK hTT hNp hx4 hb4 hs4 hb5 hY5 hx6 hb56 hb36 hn6 hL6 hd6
      go_wp2_with (first | (with_reducible refine wpList_load30 rfl (.tmp 2) rfl w.heap.size rfl d0 HX3.out HD.out.1 ?_) | (with_reducible refine wpList_made30 rfl rfl ?_) | (with_reducible refine wpList_store30 rfl (.tmp 7) (.tmp 29) rfl w3.heap.size rfl dvz d0 HN3.out rfl dvz_size HD.out.1 HD.out.2.1 ?_))
      refine wp_load30' (.tmp 7) rfl w3.heap.size rfl d6 HX6.out HS6.out.1 ?_
      go_wp2_with fail
      clear e4 e5 e6 hmk c1 c2 f2 l2 HX3 HX4 HY4 HL4 HN5 HN3
      refine K.out.mono ?_
      rintro e w7 ⟨M, dm, rfl, hm, hil, hb⟩
      clear K
      obtain ⟨Bk, st, hblk, hj⟩ := hil
      obtain ⟨R, hR, hRl, hRm, hMt⟩ := X6.IsJ.none_ HV6.out.ok hblk hj (fun t ht => List.eq_of_mem_replicate ht)
      have hRk : R.length = Kk := hRl.trans HNN.out.2.1
      have HB7 := hid (HB6.out.trans (hb.mono HB6.out.size))
      have HM := hid hm.sz
      obtain ⟨w8, e8, hx8, hb8, hs8⟩ := kept_new w7 dm
      have hbb := hb.trans (hb8.mono hb.size)
      have HB8 := hid (HB7.out.trans (hb8.mono HB7.out.size))
      have HW38 := hid (HW36.out.trans (hbb.mono HW36.out.size))
      have HL := hid (HL.out.below hbb)
      have HX := hid (HX.out.below hbb)
      have HN7 := hid (new_block w7 (.cells dvz 30))
      obtain ⟨nvm, tvm, hdm, hdam⟩ := hm.below hb8
      obtain ⟨br, offr, ror, rcr, cr, hnv, hbr, ccr, hrr⟩ := rowsAt_get hdam.rows (show M.next[0]? = some R by rw [hR]; rfl)
      obtain ⟨bt, offt, ct, htv, hbt, cct, _⟩ := tagsAt_get hdam.tags (show M.tags[0]? = some 0 by rw [hMt]; rfl)
      have hMl : M.next.length = 1 := by rw [hR]; rfl
      have hTl : M.tags.length = 1 := by rw [hMt]; rfl
      rw [hMl] at hnv
      rw [hTl] at htv
      subst hnv htv
      have m256 : w8.cell? ⟨w7.heap.size, 256, none⟩ = some (.slice (some ⟨br, offr, none⟩) 1 cr) := by rw [Lib.cell_of_heap hx8, hdm, dcell_next hdam.len]
      have m257 : w8.cell? ⟨w7.heap.size, 257, none⟩ = some (.slice (some ⟨bt, offt, none⟩) 1 ct) := by rw [Lib.cell_of_heap hx8, hdm, dcell_tags hdam.len]
      have mt : w8.cell? ⟨bt, offt, none⟩ = some (.int .u64 0) := cct
      have mr : w8.cell? ⟨br, offr, none⟩ = some (.slice ror Kk rcr) := by rw [← hRk]; exact ccr
      have HRR := hid (And.intro hrr (And.intro hRk hRm))
      clear hb hm hblk hj hR hRl hRm hMt hRk hx8 hb8 hs8 hbb hdm hdam hbr ccr hrr hbt cct hMl hTl
      go_wp2_with (first | (with_reducible refine wpList_made30 rfl rfl ?_) | (with_reducible refine wpList_store30 rfl (.tmp 8) (.tmp 38) rfl w7.heap.size rfl dvz dm HN7.out rfl dvz_size HM.out.1 HM.out.2.1 ?_))
      clear e8
      go_loopw [10] (fun t10 wr => ∃ i : Nat, i ≤ Kk ∧ t10 = .int .i64 (i : Int) ∧ w8 = wr) (fun t10 _ => Kk - (RowKit.intOf t10).toNat)
      case atStart => exact ⟨0, Nat.zero_le _, rfl, rfl⟩
      case round =>
        obtain ⟨i, hiK, rfl, rfl⟩ := hrel
        by_cases hlt : i < Kk
        · have k1 : (i : Int) < (Kk : Int) := by omega
          have k2 : (0 : Int) ≤ (i : Int) := by omega
          obtain ⟨z, hz⟩ : ∃ z, R[i]? = some z := ⟨_, List.getElem?_eq_getElem (by rw [HRR.out.2.1]; exact hlt)⟩
          have hz1 := HRR.out.2.2 z (List.mem_of_getElem? hz)
          have hrr := HRR.out.1
          rw [HRR.out.2.1] at hrr
          obtain ⟨bz, offz, hro, hbz, cz⟩ := rowAt_get hrr hz
          subst hro
          rw [hz1] at cz
          clear hz hz1 hrr hbz
          go_wp2_with fail
          refine ⟨⟨i + 1, by omega, rfl, by first | trivial | rfl⟩, ?_⟩
          show Kk - ((i : Int) + 1).toNat < Kk - ((i : Int)).toNat
          omega
        · obtain rfl : Kk = i := by omega
          have k1 : ¬ (Kk : Int) < (Kk : Int) := by omega
          obtain ⟨w9, e9, hx9, hb9, hs9⟩ := kept_new w8 d0
          have HN8 := hid (new_block w8 (.cells dvz 30))
          have HB9 := hid (HB8.out.trans (hb9.mono HB8.out.size))
          have hda8 := HDA.out.below (HW38.out)
          have HRW := hda8.rows
          rw [HNN.out.1] at HRW
          obtain ⟨bn, offn, NV, hno, hbn, hNl, hNV, hcell, hrows⟩ := next_vals HRW HNN.out.2.2.2
          subst hno
          have HNV := hid (And.intro hNV (And.intro hbn hcell))
          have HROW := hid hrows
          obtain ⟨u0, hu0⟩ : ∃ u0, NV[0]? = some u0 := ⟨_, List.getElem?_eq_getElem (by rw [hNV]; exact HNN.out.2.2.2)⟩
          have hr0 := hrows 0 u0 (X5.rowOf D 0) hu0 (rowOf_get (by rw [HNN.out.1]; exact HNN.out.2.2.2))
          obtain ⟨ro, rc, hu1, _⟩ := hr0
          rw [HNN.out.2.1] at hu1
          have c0 := (hcell 0 u0 hu0).1
          rw [hu1] at c0
          have c0' : w8.cell? ⟨bn, offn, none⟩ = some (.slice ro Kk rc) := c0
          have cw : w8.cell? ⟨w.heap.size, 256, none⟩ = some (.slice (some ⟨bn, offn, none⟩) N nc) := by rw [Lib.cell_of_heap HX.out, HD256.out, HNN.out.1]
          have cw7 : w8.cell? ⟨w.heap.size, 257, none⟩ = some (.slice to N tc) := by rw [Lib.cell_of_heap HX.out, HD257.out, HNN.out.2.2.1]
          have lw := Bxx.lt HX.out
          obtain ⟨ba, offa, hto, hba, _, hta⟩ := tag_vals (show TagsAt w8 (.slice to N tc) D.tags from by have := hda8.tags; rw [HNN.out.2.2.1] at this; exact this) HNN.out.2.2.2
          subst hto
          have HTA := hid (And.intro hba hta)
          have h64 : ∀ q ∈ D.tags, q < 18446744073709551616 := fun q hq => by
            obtain ⟨i, hi⟩ := List.mem_iff_getElem?.1 hq
            obtain ⟨_, _, _, _, _, _, h9⟩ := tagsAt_get hda8.tags hi
            exact h9
          have H64 := hid h64
          have HDS := hid (And.intro hda8.len hda8.short)
          have hS : ∀ w' : World, Below w8.heap.size w8 w' → w'.cell? ⟨w.heap.size, 256, none⟩ = some (.slice (some ⟨bn, offn, none⟩) N nc) ∧ w'.cell? ⟨bn, offn, none⟩ = some (.slice ro Kk rc) := fun w' hb => ⟨cell_bel hb lw cw, cell_bel hb hbn c0'⟩
          have hS7 : Hid (∀ w' : World, Below w8.heap.size w8 w' → w'.cell? ⟨w.heap.size, 257, none⟩ = some (.slice (some ⟨ba, offa, none⟩) N tc)) := hid fun w' hb => cell_bel hb lw cw7
          have HS := hid hS
          obtain ⟨we, ewe⟩ : ∃ we, w9.drew = we := ⟨_, rfl⟩
          have hbe : Below w8.heap.size w8 we := by rw [← ewe]; exact hb9.drew
          have FE : Foot w8.heap.size w8 we [blkI w8.heap.size (.cells d0 30 (0, 0)), noneI, noneI, noneI, noneI, noneI] := none_begin hbe (by rw [← ewe]; exact hx9)
          have HFE := hid FE
          have HX8 := hid (show w8.heap[w.heap.size]? = some (.cells d0 30 (0, 0)) from HX.out)
          have HHE := hS _ hbe
          have k8 : (0 : Int) < (N : Int) := by have := HNN.out.2.2.2; omega
          have k9 : 0 < N := HNN.out.2.2.2
          clear hba hta h64 hda8 HRW hbn hNl hNV hcell hrows hu0 hu1 c0 c0' cw cw7 lw hbe FE hs9 hx9 hb9
          go_wp2_with (first | (with_reducible refine wpList_load30 rfl (.tmp 2) rfl w.heap.size rfl d0 HX8.out HD.out.1 ?_) | (with_reducible refine wpList_made30 rfl rfl ?_) | (with_reducible refine wpList_store30 rfl (.tmp 11) (.tmp 72) rfl w8.heap.size rfl dvz d0 HN8.out rfl dvz_size HD.out.1 HD.out.2.1 ?_))
          refine region_T 13 (fun w' => w'.cell? ⟨w.heap.size, 256, none⟩ = some (.slice (some ⟨bn, offn, none⟩) N nc) ∧ w'.cell? ⟨bn, offn, none⟩ = some (.slice ro Kk rc)) (by kernel_rfl) (by rw [ewe]; exact HHE) (fun inv hHeld => ?_)
          rw [ewe]
          clear hHeld ewe e9 m256 m257 mt mr HRR
          refine anyT_take (i := 1) (oi := { dst := some 74, op := Go.Op.fieldAddr 30 (Go.Operand.tmp 2) 1, type := 0, pos := "law.go:144", after := #[], guard := none }) (v := ?_) rfl (by kernel_rfl) (by kernel_rfl) (by kernel_rfl) (by decide) (by decide) (by kernel_rfl) (by kernel_rfl) (fun _ _ _ h => h) (Or.inl ⟨by rfl, ?_⟩) HHE inv (fun inv => ?_)
          rotate_left
          · intro w hSw
            try dsimp only at hSw
            go_simp
            try with_reducible rfl
          simp only [Act.put, List.setIfInBounds_toArray, List.set_cons_zero, List.set_cons_succ]
          refine anyT_take (i := 2) (oi := { dst := some 75, op := Go.Op.load 27 (Go.Operand.tmp 74), type := 27, pos := "law.go:144", after := #[{ on := 1, ground := Go.Ground.data }], guard := none }) (v := ?_) rfl (by kernel_rfl) (by kernel_rfl) (by kernel_rfl) (by decide) (by decide) (by kernel_rfl) (by kernel_rfl) (fun _ _ _ h => h) (Or.inl ⟨by rfl, ?_⟩) HHE inv (fun inv => ?_)
          rotate_left
          · intro w hSw
            try dsimp only at hSw
            go_simp
            try with_reducible rfl
          simp only [Act.put, List.setIfInBounds_toArray, List.set_cons_zero, List.set_cons_succ]
          refine anyT_take (i := 4) (oi := { dst := some 77, op := Go.Op.fieldAddr 30 (Go.Operand.tmp 2) 1, type := 0, pos := "law.go:144", after := #[], guard := none }) (v := ?_) rfl (by kernel_rfl) (by kernel_rfl) (by kernel_rfl) (by decide) (by decide) (by kernel_rfl) (by kernel_rfl) (fun _ _ _ h => h) (Or.inl ⟨by rfl, ?_⟩) HHE inv (fun inv => ?_)
          rotate_left
          · intro w hSw
            try dsimp only at hSw
            go_simp
            try with_reducible rfl
          simp only [Act.put, List.setIfInBounds_toArray, List.set_cons_zero, List.set_cons_succ]
          refine anyT_take (i := 5) (oi := { dst := some 78, op := Go.Op.load 27 (Go.Operand.tmp 77), type := 27, pos := "law.go:144", after := #[{ on := 4, ground := Go.Ground.data }], guard := none }) (v := ?_) rfl (by kernel_rfl) (by kernel_rfl) (by kernel_rfl) (by decide) (by decide) (by kernel_rfl) (by kernel_rfl) (fun _ _ _ h => h) (Or.inl ⟨by rfl, ?_⟩) HHE inv (fun inv => ?_)
          rotate_left
          · intro w hSw
            try dsimp only at hSw
            go_simp
            try with_reducible rfl
          simp only [Act.put, List.setIfInBounds_toArray, List.set_cons_zero, List.set_cons_succ]
          refine anyT_take (i := 6) (oi := { dst := some 79, op := Go.Op.indexAddr 27 (Go.Operand.tmp 78) (Go.Operand.const (Go.Value.int Go.IntKind.i64 0)), type := 0, pos := "law.go:144", after := #[{ on := 5, ground := Go.Ground.data }], guard := none }) (v := ?_) rfl (by kernel_rfl) (by kernel_rfl) (by kernel_rfl) (by decide) (by decide) (by kernel_rfl) (by kernel_rfl) (fun _ _ _ h => h) (Or.inl ⟨by rfl, ?_⟩) HHE inv (fun inv => ?_)
          rotate_left
          · intro w hSw
            try dsimp only at hSw
            go_simp
            try with_reducible rfl
          simp only [Act.put, List.setIfInBounds_toArray, List.set_cons_zero, List.set_cons_succ]
          refine anyT_take (i := 7) (oi := { dst := some 80, op := Go.Op.load 56 (Go.Operand.tmp 79), type := 56, pos := "law.go:144", after := #[{ on := 6, ground := Go.Ground.data }], guard := none }) (v := ?_) rfl (by kernel_rfl) (by kernel_rfl) (by kernel_rfl) (by decide) (by decide) (by kernel_rfl) (by kernel_rfl) (fun _ _ _ h => h) (Or.inl ⟨by rfl, ?_⟩) HHE inv (fun inv => ?_)
          rotate_left
          · intro w hSw
            try dsimp only at hSw
            go_simp
            try with_reducible rfl
          simp only [Act.put, List.setIfInBounds_toArray, List.set_cons_zero, List.set_cons_succ]
          refine anyT_take (i := 8) (oi := { dst := some 81, op := Go.Op.call { callee := Go.Callee.builtin Go.Builtin.len, args := #[Go.Operand.tmp 80], argTypes := #[56] }, type := 3, pos := "law.go:144", after := #[{ on := 7, ground := Go.Ground.data }], guard := none }) (v := ?_) rfl (by kernel_rfl) (by kernel_rfl) (by kernel_rfl) (by decide) (by decide) (by kernel_rfl) (by kernel_rfl) (fun _ _ _ h => h) (Or.inl ⟨by rfl, ?_⟩) HHE inv (fun inv => ?_)
          rotate_left
          · intro w hSw
            try dsimp only at hSw
            go_simp
            try with_reducible rfl
          simp only [Act.put, List.setIfInBounds_toArray, List.set_cons_zero, List.set_cons_succ]
          clear inv
          refine (fun (REST : ∀ (v73 v76 : Value) (m82 g83 : Nat) (x : World), Foot w8.heap.size w8 x [blkI w8.heap.size (.cells d0 30 (0, 0)), rowI w8.heap.size 56 v76 NV, rowI w8.heap.size 3 (.slice (some ⟨m82, 0, none⟩) Kk Kk) (zs (List.replicate Kk 0)), blkI g83 (.cells #[.slice (some ⟨m82, 0, none⟩) Kk Kk] 56 (0, 0)), noneI, noneI] → (?A : Value → Value → Nat → Nat → World → Prop) v73 v76 m82 g83 x) => ?main) ?rest
          case main =>
            have FE := HFE.out
            refine anyT_two (i := 0) (k := 9) (o := { dst := some 73, op := Go.Op.buildSlice 27 0 #[], type := 27, pos := "law.go:144", after := #[], guard := none }) (p := { dst := some 82, op := Go.Op.makeSlice 56 (Go.Operand.tmp 81) (Go.Operand.tmp 81), type := 56, pos := "law.go:144", after := #[{ on := 8, ground := Go.Ground.data }, { on := 8, ground := Go.Ground.data }], guard := none }) (by kernel_rfl) rfl rfl (fun K' hK => ?_) (fun K' hK => ?_)
            · obtain ⟨x0, ex0⟩ : ∃ x, World.alloc we (.cells #[] 56) = x := ⟨_, rfl⟩
              have F0 := FE.nil_ 1 rfl ex0
              have HH0 := hS _ (Foot.bel F0)
              go_simp
              refine hK.out _ _ (fun _ => HH0) ?_
              clear hK K'
              try simp only [Act.put, List.setIfInBounds_toArray, List.set_cons_zero, List.set_cons_succ]
              clear ex0
              obtain ⟨v73, h73⟩ : ∃ v, Value.slice (some ⟨World.heap we |>.size, 0, none⟩) 0 0 = v := ⟨_, rfl⟩
              rw [h73] at F0 ⊢
              clear h73
              refine anyT_two (i := 3) (k := 9) (o := { dst := some 76, op := Go.Op.call { callee := Go.Callee.builtin Go.Builtin.append, args := #[Go.Operand.tmp 73, Go.Operand.tmp 75], argTypes := #[27, 27] }, type := 27, pos := "law.go:144", after := #[{ on := 0, ground := Go.Ground.data }, { on := 2, ground := Go.Ground.data }], guard := none }) (p := { dst := some 82, op := Go.Op.makeSlice 56 (Go.Operand.tmp 81) (Go.Operand.tmp 81), type := 56, pos := "law.go:144", after := #[{ on := 8, ground := Go.Ground.data }, { on := 8, ground := Go.Ground.data }], guard := none }) (by kernel_rfl) rfl rfl (fun K' hK => ?_) (fun K' hK => ?_)
              · simp only [Region.wanted]
                rw [if_pos trivial]
                refine wp_rows (.tmp 73) (.tmp 75) 27 56 rfl nil1 24 Tryd.underlying27 info56 rfl (by decide) w8.heap.size v73 rfl (Foot.rowAt F0 1 rfl) ⟨bn, offn, none⟩ N nc NV rfl HNV.out.1 (fun j u hu => by rw [add_one_cell]; exact cell_bel (Foot.bel F0) HNV.out.2.1 (HNV.out.2.2 j u hu).1) (fun u hu => by
                  obtain ⟨j, hj, rfl⟩ := List.mem_iff_getElem.1 hu
                  exact (HNV.out.2.2 j _ (List.getElem?_eq_getElem hj)).2) hN (Foot.leB F0) ?_
                intro v76 x1 hown hg hat
                have F1 := Foot.push F0 1 rfl hown hg hat
                have HH1 := hS _ (Foot.bel F1)
                clear hown hg hat
                refine hK.out _ _ (fun _ => HH1) ?_
                clear hK K'
                try simp only [Act.put, List.setIfInBounds_toArray, List.set_cons_zero, List.set_cons_succ]
                refine anyT_one (i := 9) (o := { dst := some 82, op := Go.Op.makeSlice 56 (Go.Operand.tmp 81) (Go.Operand.tmp 81), type := 56, pos := "law.go:144", after := #[{ on := 8, ground := Go.Ground.data }, { on := 8, ground := Go.Ground.data }], guard := none }) (by kernel_rfl) rfl (fun K' hK => ?_)
                obtain ⟨x2, ex2⟩ : ∃ x, World.alloc x1 (.cells (Array.replicate Kk (.int .i64 0)) 3) = x := ⟨_, rfl⟩
                have F2 := F1.zeros 2 rfl hKb ex2
                have HH2 := hS _ (Foot.bel F2)
                have hmk := made_ints Kk hKb x1
                go_simp
                refine hK.out _ _ (fun _ => HH2) ?_
                clear hK K'
                try simp only [Act.put, List.setIfInBounds_toArray, List.set_cons_zero, List.set_cons_succ]
                clear ex2 hmk
                obtain ⟨m82, h82⟩ : ∃ m, (World.heap x1).size = m := ⟨_, rfl⟩
                rw [h82] at F2 ⊢
                clear h82
                refine anyT_one (i := 10) (o := { dst := some 83, op := Go.Op.buildSlice 27 1 #[(0, Go.Operand.tmp 82)], type := 27, pos := "law.go:144", after := #[{ on := 9, ground := Go.Ground.data }], guard := none }) (by kernel_rfl) rfl (fun K' hK => ?_)
                obtain ⟨x3, ex3⟩ : ∃ x, World.alloc x2 (.cells #[.slice (some ⟨m82, 0, none⟩) Kk Kk] 56) = x := ⟨_, rfl⟩
                have F3 := F2.block 3 rfl ex3
                have HH3 := hS _ (Foot.bel F3)
                go_simp
                refine hK.out _ _ (fun _ => HH3) ?_
                clear hK K'
                try simp only [Act.put, List.setIfInBounds_toArray, List.set_cons_zero, List.set_cons_succ]
                clear ex3
                obtain ⟨g83, h83⟩ : ∃ m, (World.heap x2).size = m := ⟨_, rfl⟩
                rw [h83] at F3 ⊢
                clear h83
                exact REST v73 v76 m82 g83 x3 F3
              · obtain ⟨x4, ex4⟩ : ∃ x, World.alloc x0 (.cells (Array.replicate Kk (.int .i64 0)) 3) = x := ⟨_, rfl⟩
                have F4 := F0.zeros 2 rfl hKb ex4
                have HH4 := hS _ (Foot.bel F4)
                have hmk := made_ints Kk hKb x0
                go_simp
                refine hK.out _ _ (fun _ => HH4) ?_
                clear hK K'
                try simp only [Act.put, List.setIfInBounds_toArray, List.set_cons_zero, List.set_cons_succ]
                clear ex4 hmk
                obtain ⟨m82, h82⟩ : ∃ m, (World.heap x0).size = m := ⟨_, rfl⟩
                rw [h82] at F4 ⊢
                clear h82
                refine anyT_two (i := 3) (k := 10) (o := { dst := some 76, op := Go.Op.call { callee := Go.Callee.builtin Go.Builtin.append, args := #[Go.Operand.tmp 73, Go.Operand.tmp 75], argTypes := #[27, 27] }, type := 27, pos := "law.go:144", after := #[{ on := 0, ground := Go.Ground.data }, { on := 2, ground := Go.Ground.data }], guard := none }) (p := { dst := some 83, op := Go.Op.buildSlice 27 1 #[(0, Go.Operand.tmp 82)], type := 27, pos := "law.go:144", after := #[{ on := 9, ground := Go.Ground.data }], guard := none }) (by kernel_rfl) rfl rfl (fun K' hK => ?_) (fun K' hK => ?_)
                · simp only [Region.wanted]
                  rw [if_pos trivial]
                  refine wp_rows (.tmp 73) (.tmp 75) 27 56 rfl nil1 24 Tryd.underlying27 info56 rfl (by decide) w8.heap.size v73 rfl (Foot.rowAt F4 1 rfl) ⟨bn, offn, none⟩ N nc NV rfl HNV.out.1 (fun j u hu => by rw [add_one_cell]; exact cell_bel (Foot.bel F4) HNV.out.2.1 (HNV.out.2.2 j u hu).1) (fun u hu => by
                    obtain ⟨j, hj, rfl⟩ := List.mem_iff_getElem.1 hu
                    exact (HNV.out.2.2 j _ (List.getElem?_eq_getElem hj)).2) hN (Foot.leB F4) ?_
                  intro v76 x5 hown hg hat
                  have F5 := Foot.push F4 1 rfl hown hg hat
                  have HH5 := hS _ (Foot.bel F5)
                  clear hown hg hat
                  refine hK.out _ _ (fun _ => HH5) ?_
                  clear hK K'
                  try simp only [Act.put, List.setIfInBounds_toArray, List.set_cons_zero, List.set_cons_succ]
                  refine anyT_one (i := 10) (o := { dst := some 83, op := Go.Op.buildSlice 27 1 #[(0, Go.Operand.tmp 82)], type := 27, pos := "law.go:144", after := #[{ on := 9, ground := Go.Ground.data }], guard := none }) (by kernel_rfl) rfl (fun K' hK => ?_)
                  obtain ⟨x6, ex6⟩ : ∃ x, World.alloc x5 (.cells #[.slice (some ⟨m82, 0, none⟩) Kk Kk] 56) = x := ⟨_, rfl⟩
                  have F6 := F5.block 3 rfl ex6
                  have HH6 := hS _ (Foot.bel F6)
                  go_simp
                  refine hK.out _ _ (fun _ => HH6) ?_
                  clear hK K'
                  try simp only [Act.put, List.setIfInBounds_toArray, List.set_cons_zero, List.set_cons_succ]
                  clear ex6
                  obtain ⟨g83, h83⟩ : ∃ m, (World.heap x5).size = m := ⟨_, rfl⟩
                  rw [h83] at F6 ⊢
                  clear h83
                  exact REST v73 v76 m82 g83 x6 F6
                · obtain ⟨x7, ex7⟩ : ∃ x, World.alloc x4 (.cells #[.slice (some ⟨m82, 0, none⟩) Kk Kk] 56) = x := ⟨_, rfl⟩
                  have F7 := F4.block 3 rfl ex7
                  have HH7 := hS _ (Foot.bel F7)
                  go_simp
                  refine hK.out _ _ (fun _ => HH7) ?_
                  clear hK K'
                  try simp only [Act.put, List.setIfInBounds_toArray, List.set_cons_zero, List.set_cons_succ]
                  clear ex7
                  obtain ⟨g83, h83⟩ : ∃ m, (World.heap x4).size = m := ⟨_, rfl⟩
                  rw [h83] at F7 ⊢
                  clear h83
                  refine anyT_one (i := 3) (o := { dst := some 76, op := Go.Op.call { callee := Go.Callee.builtin Go.Builtin.append, args := #[Go.Operand.tmp 73, Go.Operand.tmp 75], argTypes := #[27, 27] }, type := 27, pos := "law.go:144", after := #[{ on := 0, ground := Go.Ground.data }, { on := 2, ground := Go.Ground.data }], guard := none }) (by kernel_rfl) rfl (fun K' hK => ?_)
                  simp only [Region.wanted]
                  rw [if_pos trivial]
                  refine wp_rows (.tmp 73) (.tmp 75) 27 56 rfl nil1 24 Tryd.underlying27 info56 rfl (by decide) w8.heap.size v73 rfl (Foot.rowAt F7 1 rfl) ⟨bn, offn, none⟩ N nc NV rfl HNV.out.1 (fun j u hu => by rw [add_one_cell]; exact cell_bel (Foot.bel F7) HNV.out.2.1 (HNV.out.2.2 j u hu).1) (fun u hu => by
                    obtain ⟨j, hj, rfl⟩ := List.mem_iff_getElem.1 hu
                    exact (HNV.out.2.2 j _ (List.getElem?_eq_getElem hj)).2) hN (Foot.leB F7) ?_
                  intro v76 x8 hown hg hat
                  have F8 := Foot.push F7 1 rfl hown hg hat
                  have HH8 := hS _ (Foot.bel F8)
                  clear hown hg hat
                  refine hK.out _ _ (fun _ => HH8) ?_
                  clear hK K'
                  try simp only [Act.put, List.setIfInBounds_toArray, List.set_cons_zero, List.set_cons_succ]
                  exact REST v73 v76 m82 g83 x8 F8
            · obtain ⟨x9, ex9⟩ : ∃ x, World.alloc we (.cells (Array.replicate Kk (.int .i64 0)) 3) = x := ⟨_, rfl⟩
              have F9 := FE.zeros 2 rfl hKb ex9
              have HH9 := hS _ (Foot.bel F9)
              have hmk := made_ints Kk hKb we
              go_simp
              refine hK.out _ _ (fun _ => HH9) ?_
              clear hK K'
              try simp only [Act.put, List.setIfInBounds_toArray, List.set_cons_zero, List.set_cons_succ]
              clear ex9 hmk
              obtain ⟨m82, h82⟩ : ∃ m, (World.heap we).size = m := ⟨_, rfl⟩
              rw [h82] at F9 ⊢
              clear h82
              refine anyT_two (i := 0) (k := 10) (o := { dst := some 73, op := Go.Op.buildSlice 27 0 #[], type := 27, pos := "law.go:144", after := #[], guard := none }) (p := { dst := some 83, op := Go.Op.buildSlice 27 1 #[(0, Go.Operand.tmp 82)], type := 27, pos := "law.go:144", after := #[{ on := 9, ground := Go.Ground.data }], guard := none }) (by kernel_rfl) rfl rfl (fun K' hK => ?_) (fun K' hK => ?_)
              · obtain ⟨x10, ex10⟩ : ∃ x, World.alloc x9 (.cells #[] 56) = x := ⟨_, rfl⟩
                have F10 := F9.nil_ 1 rfl ex10
                have HH10 := hS _ (Foot.bel F10)
                go_simp
                refine hK.out _ _ (fun _ => HH10) ?_
                clear hK K'
                try simp only [Act.put, List.setIfInBounds_toArray, List.set_cons_zero, List.set_cons_succ]
                clear ex10
                obtain ⟨v73, h73⟩ : ∃ v, Value.slice (some ⟨World.heap x9 |>.size, 0, none⟩) 0 0 = v := ⟨_, rfl⟩
                rw [h73] at F10 ⊢
                clear h73
                refine anyT_two (i := 3) (k := 10) (o := { dst := some 76, op := Go.Op.call { callee := Go.Callee.builtin Go.Builtin.append, args := #[Go.Operand.tmp 73, Go.Operand.tmp 75], argTypes := #[27, 27] }, type := 27, pos := "law.go:144", after := #[{ on := 0, ground := Go.Ground.data }, { on := 2, ground := Go.Ground.data }], guard := none }) (p := { dst := some 83, op := Go.Op.buildSlice 27 1 #[(0, Go.Operand.tmp 82)], type := 27, pos := "law.go:144", after := #[{ on := 9, ground := Go.Ground.data }], guard := none }) (by kernel_rfl) rfl rfl (fun K' hK => ?_) (fun K' hK => ?_)
                · simp only [Region.wanted]
                  rw [if_pos trivial]
                  refine wp_rows (.tmp 73) (.tmp 75) 27 56 rfl nil1 24 Tryd.underlying27 info56 rfl (by decide) w8.heap.size v73 rfl (Foot.rowAt F10 1 rfl) ⟨bn, offn, none⟩ N nc NV rfl HNV.out.1 (fun j u hu => by rw [add_one_cell]; exact cell_bel (Foot.bel F10) HNV.out.2.1 (HNV.out.2.2 j u hu).1) (fun u hu => by
                    obtain ⟨j, hj, rfl⟩ := List.mem_iff_getElem.1 hu
                    exact (HNV.out.2.2 j _ (List.getElem?_eq_getElem hj)).2) hN (Foot.leB F10) ?_
                  intro v76 x11 hown hg hat
                  have F11 := Foot.push F10 1 rfl hown hg hat
                  have HH11 := hS _ (Foot.bel F11)
                  clear hown hg hat
                  refine hK.out _ _ (fun _ => HH11) ?_
                  clear hK K'
                  try simp only [Act.put, List.setIfInBounds_toArray, List.set_cons_zero, List.set_cons_succ]
                  refine anyT_one (i := 10) (o := { dst := some 83, op := Go.Op.buildSlice 27 1 #[(0, Go.Operand.tmp 82)], type := 27, pos := "law.go:144", after := #[{ on := 9, ground := Go.Ground.data }], guard := none }) (by kernel_rfl) rfl (fun K' hK => ?_)
                  obtain ⟨x12, ex12⟩ : ∃ x, World.alloc x11 (.cells #[.slice (some ⟨m82, 0, none⟩) Kk Kk] 56) = x := ⟨_, rfl⟩
                  have F12 := F11.block 3 rfl ex12
                  have HH12 := hS _ (Foot.bel F12)
                  go_simp
                  refine hK.out _ _ (fun _ => HH12) ?_
                  clear hK K'
                  try simp only [Act.put, List.setIfInBounds_toArray, List.set_cons_zero, List.set_cons_succ]
                  clear ex12
                  obtain ⟨g83, h83⟩ : ∃ m, (World.heap x11).size = m := ⟨_, rfl⟩
                  rw [h83] at F12 ⊢
                  clear h83
                  exact REST v73 v76 m82 g83 x12 F12
                · obtain ⟨x13, ex13⟩ : ∃ x, World.alloc x10 (.cells #[.slice (some ⟨m82, 0, none⟩) Kk Kk] 56) = x := ⟨_, rfl⟩
                  have F13 := F10.block 3 rfl ex13
                  have HH13 := hS _ (Foot.bel F13)
                  go_simp
                  refine hK.out _ _ (fun _ => HH13) ?_
                  clear hK K'
                  try simp only [Act.put, List.setIfInBounds_toArray, List.set_cons_zero, List.set_cons_succ]
                  clear ex13
                  obtain ⟨g83, h83⟩ : ∃ m, (World.heap x10).size = m := ⟨_, rfl⟩
                  rw [h83] at F13 ⊢
                  clear h83
                  refine anyT_one (i := 3) (o := { dst := some 76, op := Go.Op.call { callee := Go.Callee.builtin Go.Builtin.append, args := #[Go.Operand.tmp 73, Go.Operand.tmp 75], argTypes := #[27, 27] }, type := 27, pos := "law.go:144", after := #[{ on := 0, ground := Go.Ground.data }, { on := 2, ground := Go.Ground.data }], guard := none }) (by kernel_rfl) rfl (fun K' hK => ?_)
                  simp only [Region.wanted]
                  rw [if_pos trivial]
                  refine wp_rows (.tmp 73) (.tmp 75) 27 56 rfl nil1 24 Tryd.underlying27 info56 rfl (by decide) w8.heap.size v73 rfl (Foot.rowAt F13 1 rfl) ⟨bn, offn, none⟩ N nc NV rfl HNV.out.1 (fun j u hu => by rw [add_one_cell]; exact cell_bel (Foot.bel F13) HNV.out.2.1 (HNV.out.2.2 j u hu).1) (fun u hu => by
                    obtain ⟨j, hj, rfl⟩ := List.mem_iff_getElem.1 hu
                    exact (HNV.out.2.2 j _ (List.getElem?_eq_getElem hj)).2) hN (Foot.leB F13) ?_
                  intro v76 x14 hown hg hat
                  have F14 := Foot.push F13 1 rfl hown hg hat
                  have HH14 := hS _ (Foot.bel F14)
                  clear hown hg hat
                  refine hK.out _ _ (fun _ => HH14) ?_
                  clear hK K'
                  try simp only [Act.put, List.setIfInBounds_toArray, List.set_cons_zero, List.set_cons_succ]
                  exact REST v73 v76 m82 g83 x14 F14
              · obtain ⟨x15, ex15⟩ : ∃ x, World.alloc x9 (.cells #[.slice (some ⟨m82, 0, none⟩) Kk Kk] 56) = x := ⟨_, rfl⟩
                have F15 := F9.block 3 rfl ex15
                have HH15 := hS _ (Foot.bel F15)
                go_simp
                refine hK.out _ _ (fun _ => HH15) ?_
                clear hK K'
                try simp only [Act.put, List.setIfInBounds_toArray, List.set_cons_zero, List.set_cons_succ]
                clear ex15
                obtain ⟨g83, h83⟩ : ∃ m, (World.heap x9).size = m := ⟨_, rfl⟩
                rw [h83] at F15 ⊢
                clear h83
                refine anyT_one (i := 0) (o := { dst := some 73, op := Go.Op.buildSlice 27 0 #[], type := 27, pos := "law.go:144", after := #[], guard := none }) (by kernel_rfl) rfl (fun K' hK => ?_)
                obtain ⟨x16, ex16⟩ : ∃ x, World.alloc x15 (.cells #[] 56) = x := ⟨_, rfl⟩
                have F16 := F15.nil_ 1 rfl ex16
                have HH16 := hS _ (Foot.bel F16)
                go_simp
                refine hK.out _ _ (fun _ => HH16) ?_
                clear hK K'
                try simp only [Act.put, List.setIfInBounds_toArray, List.set_cons_zero, List.set_cons_succ]
                clear ex16
                obtain ⟨v73, h73⟩ : ∃ v, Value.slice (some ⟨World.heap x15 |>.size, 0, none⟩) 0 0 = v := ⟨_, rfl⟩
                rw [h73] at F16 ⊢
                clear h73
                refine anyT_one (i := 3) (o := { dst := some 76, op := Go.Op.call { callee := Go.Callee.builtin Go.Builtin.append, args := #[Go.Operand.tmp 73, Go.Operand.tmp 75], argTypes := #[27, 27] }, type := 27, pos := "law.go:144", after := #[{ on := 0, ground := Go.Ground.data }, { on := 2, ground := Go.Ground.data }], guard := none }) (by kernel_rfl) rfl (fun K' hK => ?_)
                simp only [Region.wanted]
                rw [if_pos trivial]
                refine wp_rows (.tmp 73) (.tmp 75) 27 56 rfl nil1 24 Tryd.underlying27 info56 rfl (by decide) w8.heap.size v73 rfl (Foot.rowAt F16 1 rfl) ⟨bn, offn, none⟩ N nc NV rfl HNV.out.1 (fun j u hu => by rw [add_one_cell]; exact cell_bel (Foot.bel F16) HNV.out.2.1 (HNV.out.2.2 j u hu).1) (fun u hu => by
                  obtain ⟨j, hj, rfl⟩ := List.mem_iff_getElem.1 hu
                  exact (HNV.out.2.2 j _ (List.getElem?_eq_getElem hj)).2) hN (Foot.leB F16) ?_
                intro v76 x17 hown hg hat
                have F17 := Foot.push F16 1 rfl hown hg hat
                have HH17 := hS _ (Foot.bel F17)
                clear hown hg hat
                refine hK.out _ _ (fun _ => HH17) ?_
                clear hK K'
                try simp only [Act.put, List.setIfInBounds_toArray, List.set_cons_zero, List.set_cons_succ]
                exact REST v73 v76 m82 g83 x17 F17
          case rest =>
            intro v73 v76 m82 g83 x F
            have HF1 := hid F
            clear F
            refine anyT_one (i := 11) (o := { dst := some 84, op := Go.Op.call { callee := Go.Callee.builtin Go.Builtin.append, args := #[Go.Operand.tmp 76, Go.Operand.tmp 83], argTypes := #[27, 27] }, type := 27, pos := "law.go:144", after := #[{ on := 3, ground := Go.Ground.data }, { on := 10, ground := Go.Ground.data }, { on := 3, ground := Go.Ground.chain }], guard := none }) (by kernel_rfl) rfl (fun K' hK => ?_)
            simp only [Region.wanted]
            rw [if_pos trivial]
            refine wp_push1 (.tmp 76) (.tmp 83) 27 56 rfl nil1 24 Tryd.underlying27 info56 rfl (by decide) w8.heap.size v76 NV.length NV rfl (Foot.rowAt HF1.out 1 rfl) g83 rfl (.slice (some ⟨m82, 0, none⟩) Kk Kk) (Foot.blkAt HF1.out 3 rfl) rfl (by rw [HNV.out.1]; exact hN) (Foot.leB HF1.out) ?_
            intro v84 x1 hown hg hat
            obtain ⟨v84o, v84c, rfl⟩ := own_shape hown
            obtain ⟨NW, hNW⟩ : ∃ NW, NV ++ [.slice (some ⟨m82, 0, none⟩) Kk Kk] = NW := ⟨_, rfl⟩
            have hNWl : NW.length = NV.length + 1 := by rw [← hNW, List.length_append]; rfl
            rw [hNW] at hown
            have F2 := Foot.push HF1.out 1 rfl (ys := NW) (by rw [hNWl]; exact hown) hg hat
            have HF2 := hid F2
            have HNW := hid (And.intro hNW hNWl)
            have HH := HS.out _ (Foot.bel F2)
            have b0 := Foot.blkAt F2 0 rfl
            have c256 : x1.cell? ⟨w8.heap.size, 256, none⟩ = some (.slice (some ⟨bn, offn, none⟩) N nc) := by rw [Lib.cell_of_heap b0, HD256.out, HNN.out.1]
            have f256 := Lib.frozen_of_heap b0 256
            have l256 := (Array.getElem?_eq_some_iff.1 b0).1
            clear hown hg hat hNW hNWl F2 b0 HF1
            refine hK.out _ _ (fun _ => HH) ?_
            clear hK K'
            try simp only [Act.put, List.setIfInBounds_toArray, List.set_cons_zero, List.set_cons_succ]
            refine anyT_one (i := 12) (o := { dst := some 85, op := Go.Op.fieldAddr 30 (Go.Operand.tmp 11) 1, type := 0, pos := "law.go:144", after := #[{ on := 0, ground := Go.Ground.phase }, { on := 1, ground := Go.Ground.phase }, { on := 2, ground := Go.Ground.phase }, { on := 3, ground := Go.Ground.phase }, { on := 4, ground := Go.Ground.phase }, { on := 5, ground := Go.Ground.phase }, { on := 6, ground := Go.Ground.phase }, { on := 7, ground := Go.Ground.phase }, { on := 8, ground := Go.Ground.phase }, { on := 9, ground := Go.Ground.phase }, { on := 10, ground := Go.Ground.phase }, { on := 11, ground := Go.Ground.phase }], guard := none }) (by kernel_rfl) rfl (fun K' hK => ?_)
            go_simp
            refine hK.out _ _ (fun _ => HH) ?_
            clear hK K' HH
            try simp only [Act.put, List.setIfInBounds_toArray, List.set_cons_zero, List.set_cons_succ]
            obtain ⟨x2, ex2⟩ : ∃ x2, x1.setCell ⟨w8.heap.size, 256, none⟩ (.slice v84o (NV.length + 1) v84c) = x2 := ⟨_, rfl⟩
            have F3 := Foot.cell HF2.out (k := 256) 0 rfl (.slice v84o (NV.length + 1) v84c)
            rw [ex2] at F3
            refine anyT_one (i := 13) (o := { dst := none, op := Go.Op.store 27 (Go.Operand.tmp 85) (Go.Operand.tmp 84), type := 0, pos := "law.go:144", after := #[{ on := 12, ground := Go.Ground.data }, { on := 11, ground := Go.Ground.data }, { on := 11, ground := Go.Ground.chain }, { on := 0, ground := Go.Ground.phase }, { on := 1, ground := Go.Ground.phase }, { on := 2, ground := Go.Ground.phase }, { on := 3, ground := Go.Ground.phase }, { on := 4, ground := Go.Ground.phase }, { on := 5, ground := Go.Ground.phase }, { on := 6, ground := Go.Ground.phase }, { on := 7, ground := Go.Ground.phase }, { on := 8, ground := Go.Ground.phase }, { on := 9, ground := Go.Ground.phase }, { on := 10, ground := Go.Ground.phase }, { on := 11, ground := Go.Ground.phase }], guard := none }) (by kernel_rfl) rfl (fun K' hK => ?_)
            go_simp
            refine hK.out _ _ (fun h => absurd h (by decide)) ?_
            clear hK K' c256 f256 l256 HF2 ex2
            try simp only [Act.put, List.setIfInBounds_toArray, List.set_cons_zero, List.set_cons_succ]
            refine anyT_done (by kernel_rfl) ?_ _
            obtain ⟨x3, ex3⟩ : ∃ x3, x2.alloc (.cells #[] 43) = x3 := ⟨_, rfl⟩
            have F4 := F3.nil_ 4 rfl ex3
            have HF4 := hid F4
            have hone : ∀ u ∈ u64s D.tags, u.oneCell' = true := fun u hu => by
              obtain ⟨q, _, rfl⟩ := List.mem_map.1 hu
              rfl
            have cw := hS7.out _ (Foot.bel F4)
            clear F3 F4
            go_wp2_with (at_builtin; refine wpList_rows rfl (.tmp 86) (.tmp 88) 28 43 rfl (.int .u64 0) 8 Tryd.underlying28 info43 rfl (by decide) w8.heap.size (.slice (some ⟨x2.heap.size, 0, none⟩) 0 0) rfl (Foot.rowAt HF4.out 4 rfl) ⟨ba, offa, none⟩ N tc (u64s D.tags) rfl (by rw [← HNN.out.2.2.1]; simp [u64s]) (fun j u hu => by rw [add_one_cell]; exact cell_bel (Foot.bel HF4.out) HTA.out.1 (HTA.out.2 j u hu)) hone hN (Foot.leB HF4.out) ?_)
            intro v89 x4 hown hg hat
            have hul : (u64s D.tags).length = N := by rw [← HNN.out.2.2.1]; simp [u64s]
            have F5 := Foot.push HF4.out 4 rfl (ys := u64s D.tags) (by rw [hul]; exact hown) hg hat
            clear hown hg hat ex3 cw HF4
            obtain ⟨x5, ex5⟩ : ∃ x5, x4.alloc (.cells #[.int .u64 (t0 : Int)] 43) = x5 := ⟨_, rfl⟩
            have F6 := F5.block 5 rfl ex5
            have HF6 := hid F6
            have hown6 := Foot.rowAt F6 4 rfl
            rw [hul] at hown6
            have HO6 := hid hown6
            have hB6 := Foot.leB F6
            have HN6 := hid (Foot.blkAt F6 5 rfl)
            clear F5 F6 hown6 hul
            go_wp2_with (at_builtin; refine wpList_push1 rfl (.tmp 89) (.tmp 91) 28 43 rfl (.int .u64 0) 8 Tryd.underlying28 info43 rfl (by decide) w8.heap.size v89 N (u64s D.tags) rfl HO6.out x4.heap.size rfl (.int .u64 (t0 : Int)) HN6.out rfl hN hB6 ?_)
            intro v92 x6 hown hg hat
            obtain ⟨v92o, v92c, rfl⟩ := own_shape hown
            obtain ⟨TG, hTG⟩ : ∃ TG, D.tags ++ [t0] = TG := ⟨_, rfl⟩
            have hTG2 : u64s D.tags ++ [.int .u64 (t0 : Int)] = u64s TG := by rw [← hTG]; simp [u64s]
            have hTGl : (u64s TG).length = N + 1 := by rw [← hTG, ← HNN.out.2.2.1]; simp [u64s]
            rw [hTG2] at hown
            have F7 := Foot.push HF6.out 4 rfl (ys := u64s TG) (by rw [hTGl]; exact hown) hg hat
            have b0 := Foot.blkAt F7 0 rfl
            have c257 : x6.cell? ⟨w8.heap.size, 257, none⟩ = some (.slice (some ⟨ba, offa, none⟩) N tc) := by
              rw [Lib.cell_of_heap b0, Array.getElem?_setIfInBounds_ne (by decide), HD257.out, HNN.out.2.2.1]
            have f257 := Lib.frozen_of_heap b0 257
            have l257 := (Array.getElem?_eq_some_iff.1 b0).1
            have F8 := Foot.cell F7 (k := 257) 0 rfl (.slice v92o (N + 1) v92c)
            obtain ⟨x7, ex7⟩ : ∃ x7, x6.setCell ⟨w8.heap.size, 257, none⟩ (.slice v92o (N + 1) v92c) = x7 := ⟨_, rfl⟩
            rw [ex7] at F8
            have HF8 := hid F8
            have hbel := Foot.bel F8
            have b8 := Foot.blkAt F8 0 rfl
            obtain ⟨de, hde⟩ : ∃ de, cv ++ #[.slice v84o (N + 1) v84c, .slice v92o (N + 1) v92c] = de := ⟨_, rfl⟩
            have hxe : Bxx w8.heap.size de x7 := by
              show x7.heap[w8.heap.size]? = _
              rw [b8, ← HCV.out.2.2.2, set_mid HCV.out.2.1, set_end HCV.out.2.1, HNV.out.1, hde]
            obtain ⟨E, hE⟩ : ∃ E : Aut, ⟨D.cls, D.next ++ [List.replicate Kk 0], TG⟩ = E := ⟨_, rfl⟩
            have hle : Lies E de x7 := by
              rw [← hE, ← hTG]
              have hr1 := Foot.rowAt F8 1 rfl
              rw [HNW.out.2, HNV.out.1, ← HNW.out.1] at hr1
              have hr4 := Foot.rowAt F8 4 rfl
              rw [hTGl, ← hTG] at hr4
              have hr2 := Foot.rowAt F8 2 rfl
              rw [show (zs (List.replicate Kk 0)).length = Kk by simp [zs]] at hr2
              refine ⟨_, _, by rw [← hde, ← HCV.out.1], more_at HDS.out.1 hr1 HNV.out.1 HNN.out.1 (fun i u x hu hx => (HROW.out i u x hu hx).below hbel) hr2 HNN.out.2.2.1 hr4 (fun x hx => ?_) hN hKb HDS.out.2⟩
              rcases List.mem_append.1 hx with h | h
              · exact H64.out x h
              · rw [List.mem_singleton.1 h]; exact HTT.out
            have hrow0 : (X5.rowOf E 0).length = Kk := by
              have h9 : X5.rowOf E 0 = X5.rowOf D 0 := by
                rw [← hE]
                exact X6.getD_app (by rw [HNN.out.1]; exact HNN.out.2.2.2)
              rw [h9, HNN.out.2.1]
            have hve : X6.Vd E := by
              have := vd_more HV.out t0
              rw [HNN.out.2.1, hTG, hE] at this
              exact this
            have hoe : X6.Ok E Kk := by rw [← hrow0]; exact hve.ok
            have heq : X6.Eqv (X5.rowOf D 0).length D 0 E 0 := by
              have := X6.more_eqv HOK.out t0
              rw [hTG, hE] at this
              rw [HNN.out.2.1]
              exact this
            have hK20 : Kk ≤ 20 := by
              rw [← HNN.out.2.1]
              exact HLT.out.2.2 _ (List.mem_of_getElem? (rowOf_get (by rw [HNN.out.1]; exact HNN.out.2.2.2)))
            have hN30 : N < 30 := by rw [← HNN.out.1]; exact HLT.out.1
            have hfe : X6.Few E := by
              have e1 : E.next.length = N + 1 := by rw [← hE]; simp [HNN.out.1]
              have e2 : E.tags.length = N + 1 := by rw [← hE, ← hTG]; simp [HNN.out.2.2.1]
              refine ⟨by omega, by omega, by omega, ?_⟩
              rw [e1, hrow0]
              have := Nat.mul_le_mul (show N + 1 ≤ 30 by omega) hK20
              omega
            have hce : D.cls = E.cls := by rw [← hE]
            have HVE := hid hve
            have HFE := hid hfe
            have HOE := hid (And.intro (show X6.Ok E (X5.rowOf D 0).length from by rw [HNN.out.2.1]; exact hoe) (And.intro heq hce))
            have HE := hid hle
            have HEX := hid hxe
            have HES := hid hle.sz
            have HBx := hid (HB8.out.trans (hbel.mono HB8.out.size))
            have HL := hid (HL.out.below hbel)
            have HX := hid (HX.out.below hbel)
            have K := hid (least_yes HL.out HF.out HV.out)
            clear hK20 hN30 hfe hce hve hoe heq hle hxe hbel hrow0 b0 b8 hTG hTG2 hTGl F7 F8 hown hg hat hde hE
            go_wp2_with fail
            clear c257 f257 l257 ex5 ex7
            refine wp_load30' (.tmp 2) rfl w.heap.size rfl d0 HX.out HD.out.1 ?_
            go_wp2_with fail
            refine K.out.mono ?_
            rintro e y5 ⟨M, dm, rfl, hm, hil, hb⟩
            clear K
            have HB5 := hid (HBx.out.trans (hb.mono HBx.out.size))
            have HM := hid hm.sz
            have HI := hid hil
            obtain ⟨y6, e6, hx6, hb6, hs6⟩ := kept_new y5 dm
            have hbb := hb.trans (hb6.mono hb.size)
            have HB6 := hid (HB5.out.trans (hb6.mono HB5.out.size))
            have HE := hid (HE.out.below hbb)
            have HEX := hid (HEX.out.below hbb)
            have HLM := hid (hm.below hb6)
            have HXM := hid hx6
            have HN5 := hid (new_block y5 (.cells dvz 30))
            have K := hid (least_yes HE.out HFE.out HVE.out)
            clear hb hm hil hx6 hb6 hs6 hbb
            go_wp2_with (first | (with_reducible refine wpList_made30 rfl rfl ?_) | (with_reducible refine wpList_store30 rfl (.tmp 12) (.tmp 97) rfl y5.heap.size rfl dvz dm HN5.out rfl dvz_size HM.out.1 HM.out.2.1 ?_))
            refine wp_load30' (.tmp 11) rfl w8.heap.size rfl de HEX.out HES.out.1 ?_
            go_wp2_with fail
            clear e6
            refine K.out.mono ?_
            rintro e y7 ⟨M2, dn, rfl, hm, hil, hb⟩
            clear K
            obtain rfl := X6.IsL.one HV.out HOE.out.1 HOE.out.2.1 HOE.out.2.2 HI.out hil
            have HB7 := hid (HB6.out.trans (hb.mono HB6.out.size))
            have HM2 := hid hm.sz
            obtain ⟨y8, e8, hx8, hb8, hs8⟩ := kept_new y7 dn
            have hbb := hb.trans (hb8.mono hb.size)
            have HB8 := hid (HB7.out.trans (hb8.mono HB7.out.size))
            have HLM := hid (HLM.out.below hbb)
            have HXM := hid (HXM.out.below hbb)
            have HLN := hid (hm.below hb8)
            have HXN := hid hx8
            have HN7 := hid (new_block y7 (.cells dvz 30))
            have K := hid (same_at HLM.out HLN.out)
            clear hb hm hil hx8 hb8 hs8 hbb
            go_wp2_with (first | (with_reducible refine wpList_made30 rfl rfl ?_) | (with_reducible refine wpList_store30 rfl (.tmp 14) (.tmp 102) rfl y7.heap.size rfl dvz dn HN7.out rfl dvz_size HM2.out.1 HM2.out.2.1 ?_))
            clear e8
            refine wp_load30' (.tmp 12) rfl y5.heap.size rfl dm HXM.out HM.out.1 ?_
            go_wp2_with fail
            refine wp_load30' (.tmp 14) rfl y7.heap.size rfl dn HXN.out HM2.out.1 ?_
            go_wp2_with fail
            refine K.out.mono ?_
            rintro e w9 ⟨rfl, hb⟩
            have HB9 := hid (HB8.out.trans (hb.mono HB8.out.size))
            clear hb K
            go_wp2_with fail
            go_ret
            exact ⟨rfl, HB9.out⟩
end Go.Proofs.YtochckefnjobhaaDoor
