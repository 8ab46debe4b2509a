/- The walk of StatesClosed. -/
import Derived.Test.YtjpbhbfklkipkaaDoorTc
namespace Go.Proofs.YtjpbhbfklkipkaaDoor
open Go Go.RowKit Go.Lib
open X14 (It Less Rise closeV closeX behX sortX thereX)
set_option linter.unusedVariables false
set_option linter.unusedSimpArgs false
theorem closeV_again (G : GD) (l : List It) : closeV G (closeV G l) = closeV G l := by
  unfold X14.closeV
  by_cases h : validB G = true
  · rw [if_pos h, if_pos h, X14.closeX_again]
  · rw [if_neg h, if_neg h]
theorem closeV_step {G : GD} {l : List It} {x : It} {s : Int} {p : Nat} (hx : x ∈ closeV G l) (hb : behV G x = some s) (hs : s < 0) (hp : p < G.prods.length) (he : sortX G p = -1 - s) : ((p : Int), (0 : Int)) ∈ closeV G l := by
  obtain ⟨hv, hin⟩ := X14.mem_closeV.1 hx
  refine X14.mem_closeV.2 ⟨hv, .more x s p hin ?_ hs hp he⟩
  unfold behV at hb
  rw [if_pos hv] at hb
  exact hb
set_option maxRecDepth 100000 in
set_option maxHeartbeats 16000000 in
theorem closed_walk {G : GD} {gv v : Value} {w : World} {l : List It} {Bt : Nat} (h : Gram w gv G) (hi : ItemsAt w v l) (ht : Tab Bt w) (hBt : Bt ≤ w.heap.size) :
    Calls Tryd.prog 5 #[gv, v] w fun e w' => e = .returned (.bool true) ∧ Below w.heap.size w w' := by
  have HGr := hid h
  have HI := hid hi
  obtain ⟨vo, vc, rfl, hvn⟩ := hi.len
  obtain ⟨n, hln⟩ : ∃ n, l.length = n := ⟨_, rfl⟩
  have HLN := hid hln
  rw [hln] at HI hvn ⊢
  obtain ⟨tv, ov, sv, pv, tf, rv, h⟩ := h
  have hgv := h.eq
  subst hgv
  obtain ⟨pa, pc, rfl, hpn, hpc⟩ := h.prods
  obtain ⟨np, hnp⟩ : ∃ np, G.prods.length = np := ⟨_, rfl⟩
  have HNP := hid hnp
  have HPC := hid hpc
  rw [hnp] at HGr hpn ⊢
  obtain ⟨W1, e1⟩ : ∃ W1, w.alloc (.cells #[tv, ov, sv, .slice pa np pc, .int .i64 G.start] 27) = W1 := ⟨_, rfl⟩
  have hb1 : Below w.heap.size w W1 := by rw [← e1]; exact (Below.refl _ _).alloc (Nat.le_refl _) _
  have n1 : W1.heap[w.heap.size]? = some (.cells #[tv, ov, sv, .slice pa np pc, .int .i64 G.start] 27 (0, 0)) := by rw [← e1]; exact new_block _ _
  have HB1 := hid hb1
  have HN1 := hid n1
  have KW := hid (works_any W1 (ht.on (hb1.mono hBt)) (Nat.le_trans hBt hb1.size))
  have hlw := (Array.getElem?_eq_some_iff.1 n1).1
  clear h hb1 n1 hi hln ht hnp hpc
  go_enter Tryd.func5, Tryd.ntmps5
  go_wp2_with fail
  refine KW.out.mono ?_
  rintro e w2 ⟨rfl, hb2⟩
  have HB2 := hid (HB1.out.trans (hb2.mono HB1.out.size))
  have HN2 := hid ((hb2.block _ hlw).trans HN1.out)
  have HG2 := hid (HGr.out.below HB2.out)
  have c0 : w2.cell? ⟨w.heap.size, 0, none⟩ = some (tv) := Lib.cell_of_heap HN2.out 0
  have c1 : w2.cell? ⟨w.heap.size, 1, none⟩ = some (ov) := Lib.cell_of_heap HN2.out 1
  have c2 : w2.cell? ⟨w.heap.size, 2, none⟩ = some (sv) := Lib.cell_of_heap HN2.out 2
  have c3 : w2.cell? ⟨w.heap.size, 3, none⟩ = some (.slice pa np pc) := Lib.cell_of_heap HN2.out 3
  have c4 : w2.cell? ⟨w.heap.size, 4, none⟩ = some (.int .i64 G.start) := Lib.cell_of_heap HN2.out 4
  obtain ⟨tv', ov', sv', pv', tf', rv', hg2⟩ := HG2.out
  have KF := few_any hg2
  obtain ⟨fw, hfw⟩ : ∃ fw, decide (fewG G) = fw := ⟨_, rfl⟩
  rw [hfw] at KF
  have KF := hid KF
  clear hb2 KW e1 hg2 hfw
  go_wp2_with fail
  refine KF.out.mono ?_
  rintro e w3 ⟨rfl, hb3⟩
  have HB3 := hid (HB2.out.trans (hb3.mono HB2.out.size))
  have HN3 := hid ((hb3.block _ (Array.getElem?_eq_some_iff.1 HN2.out).1).trans HN2.out)
  clear hb3 KF c0 c1 c2 c3 c4
  cases fw
  · go_wp2_with fail
    go_ret
    exact ⟨rfl, HB3.out⟩
  by_cases hn30 : 30 < n
  · have z0 : (30 : Int) < (n : Int) := by omega
    go_wp2_with fail
    go_ret
    exact ⟨rfl, HB3.out⟩
  have z0 : ¬ (30 : Int) < (n : Int) := by omega
  have hn : n ≤ 30 := by omega
  have c0 : w3.cell? ⟨w.heap.size, 0, none⟩ = some (tv) := Lib.cell_of_heap HN3.out 0
  have c1 : w3.cell? ⟨w.heap.size, 1, none⟩ = some (ov) := Lib.cell_of_heap HN3.out 1
  have c2 : w3.cell? ⟨w.heap.size, 2, none⟩ = some (sv) := Lib.cell_of_heap HN3.out 2
  have c3 : w3.cell? ⟨w.heap.size, 3, none⟩ = some (.slice pa np pc) := Lib.cell_of_heap HN3.out 3
  have c4 : w3.cell? ⟨w.heap.size, 4, none⟩ = some (.int .i64 G.start) := Lib.cell_of_heap HN3.out 4
  have KC := hid (Close_any (HGr.out.below HB3.out) (HI.out.below HB3.out) (by rw [HLN.out]; omega))
  clear hn30
  go_wp2_with fail
  refine KC.out.mono ?_
  rintro e w4 ⟨cv, rfl, hcv, hb4⟩
  have HB4 := hid (HB3.out.trans (hb4.mono HB3.out.size))
  have HN4 := hid ((hb4.block _ (Array.getElem?_eq_some_iff.1 HN3.out).1).trans HN3.out)
  have hcl := X14.closeV_len G l
  have HRISE := hid (X14.closeV_rise G l)
  have HAG := hid (closeV_again G l)
  have HST := hid (fun (x : It) (s : Int) (p : Nat) (a : x ∈ closeV G l) (b : behV G x = some s) (c : s < 0) (d : p < G.prods.length) (e : sortX G p = -1 - s) => closeV_step a b c d e)
  have HIN := hid (show ∀ x ∈ closeV G l, validB G = true from fun x hx => (X14.mem_closeV.1 hx).1)
  generalize closeV G l = C at *
  have HCV := hid hcv
  obtain ⟨co, cc, rfl, _⟩ := hcv.len
  obtain ⟨m, hm⟩ : ∃ m, C.length = m := ⟨_, rfl⟩
  have HM := hid hm
  rw [hm] at HCV hcl ⊢
  have KC2 := Close_any (HGr.out.below HB4.out) HCV.out (by omega)
  rw [HAG.out] at KC2
  have KC2 := hid KC2
  clear c0 c1 c2 c3 c4 KC hcv hb4 hm
  have c0 : w4.cell? ⟨w.heap.size, 0, none⟩ = some (tv) := Lib.cell_of_heap HN4.out 0
  have c1 : w4.cell? ⟨w.heap.size, 1, none⟩ = some (ov) := Lib.cell_of_heap HN4.out 1
  have c2 : w4.cell? ⟨w.heap.size, 2, none⟩ = some (sv) := Lib.cell_of_heap HN4.out 2
  have c3 : w4.cell? ⟨w.heap.size, 3, none⟩ = some (.slice pa np pc) := Lib.cell_of_heap HN4.out 3
  have c4 : w4.cell? ⟨w.heap.size, 4, none⟩ = some (.int .i64 G.start) := Lib.cell_of_heap HN4.out 4
  go_wp2_with fail
  refine KC2.out.mono ?_
  rintro e w5 ⟨dv, rfl, hdv, hb5⟩
  have HB5 := hid (HB4.out.trans (hb5.mono HB4.out.size))
  have HN5 := hid ((hb5.block _ (Array.getElem?_eq_some_iff.1 HN4.out).1).trans HN4.out)
  have HCV5 := hid (HCV.out.below hb5)
  have HDV := hid hdv
  obtain ⟨do_, dc, rfl, _⟩ := hdv.len
  have KR := hid (LRow_any HCV5.out (by rw [HM.out]; omega))
  clear c0 c1 c2 c3 c4 KC2 hdv hb5
  go_wp2_with fail
  refine KR.out.mono ?_
  rintro e w6 ⟨ev, rfl, hev, hb6⟩
  have HB6 := hid (HB5.out.trans (hb6.mono HB5.out.size))
  have HN6 := hid ((hb6.block _ (Array.getElem?_eq_some_iff.1 HN5.out).1).trans HN5.out)
  have HCV6 := hid (HCV5.out.below hb6)
  have HEV := hid (own_items hev (by rw [HM.out]; omega))
  obtain ⟨eo, ec, rfl⟩ := own_shape hev
  have KR2 := hid (LRow_any (HDV.out.below hb6) (by rw [HM.out]; omega))
  clear KR hev hb6
  go_wp2_with fail
  refine KR2.out.mono ?_
  rintro e w7 ⟨fv, rfl, hfv, hb7⟩
  have HB7 := hid (HB6.out.trans (hb7.mono HB6.out.size))
  have HN7 := hid ((hb7.block _ (Array.getElem?_eq_some_iff.1 HN6.out).1).trans HN6.out)
  have HCV7 := hid (HCV6.out.below hb7)
  have HFV := hid (own_items hfv (by rw [HM.out]; omega))
  obtain ⟨fo, fc, rfl⟩ := own_shape hfv
  have KQ := hid (RRow_any (HEV.out.below hb7) HFV.out)
  clear KR2 hfv hb7
  go_wp2_with fail
  refine KQ.out.mono ?_
  rintro e w8 ⟨e9, hb8⟩
  obtain rfl : e = .returned (.bool true) := by simpa using e9
  have HB8 := hid (HB7.out.trans (hb8.mono HB7.out.size))
  have HN8 := hid ((hb8.block _ (Array.getElem?_eq_some_iff.1 HN7.out).1).trans HN7.out)
  have HCV8 := hid (HCV7.out.below hb8)
  clear KQ hb8
  go_wp2_with fail
  go_loopw [9, 10, 11, 12, 13, 14] (fun t9 t10 t11 t12 t13 t14 wr => ∃ i : Nat, i ≤ m ∧ t9 = .int .i64 (i : Int) ∧ Hid (Below w8.heap.size w8 wr)) (fun t9 _ _ _ _ _ _ => m - (RowKit.intOf t9).toNat)
  case atStart => exact ⟨0, Nat.zero_le _, rfl, hid (Below.refl _ _)⟩
  case round =>
    obtain ⟨i, him, rfl, HB⟩ := hrel
    have HBw := hid (HB8.out.trans (HB.out.mono HB8.out.size))
    have HNw := hid ((HB.out.block _ (Array.getElem?_eq_some_iff.1 HN8.out).1).trans HN8.out)
    have HCw := hid (HCV8.out.below HB.out)
    by_cases hlt : i < m
    · have t1 : (i : Int) < (m : Int) := by omega
      have t2 : (0 : Int) ≤ (i : Int) := by omega
      obtain ⟨x, hx⟩ : ∃ x, C[i]? = some x := ⟨_, List.getElem?_eq_getElem (by rw [HM.out]; exact hlt)⟩
      have HX := hid hx
      obtain ⟨lb, lo, rfl, p0, p1⟩ := HCw.out.at_ hx
      have HQ0 : Hid (∀ w', Below wr.heap.size wr w' → w'.cell? ⟨lb, lo + i * 2, none⟩ = some (.int .i64 x.1)) := hid fun w' hC => cell_below hC p0
      have HQ1 : Hid (∀ w', Below wr.heap.size wr w' → w'.cell? ⟨lb, lo + i * 2 + 1, none⟩ = some (.int .i64 x.2)) := hid fun w' hC => cell_below hC p1
      rcases Nat.eq_zero_or_pos i with hz | hz
      · subst hz
        have z1 : ((0 : Nat) : Int) = 0 := rfl
        go_wp2_with fail
        refine wp_region_below (by kernel_rfl) (by kernel_rfl) ?_
        with_reducible refine BigFrame.wpQuiet_want (by kernel_rfl) (fun K hK => ?_)
        apply Exists.intro
        refine ⟨fun w' hC => ?_, hK _ ?_⟩
        · unfold Oper.quietAt
          go_simp
          first | with_reducible rfl | done
        clear hK K
        try simp only [Act.put, List.setIfInBounds_toArray, List.set_cons_zero, List.set_cons_succ]
        with_reducible refine BigFrame.wpQuiet_want (by kernel_rfl) (fun K hK => ?_)
        apply Exists.intro
        refine ⟨fun w' hC => ?_, hK _ ?_⟩
        · unfold Oper.quietAt
          go_simp
          first | with_reducible rfl | done
        clear hK K
        try simp only [Act.put, List.setIfInBounds_toArray, List.set_cons_zero, List.set_cons_succ]
        with_reducible refine BigFrame.wpQuiet_want (by kernel_rfl) (fun K hK => ?_)
        apply Exists.intro
        refine ⟨fun w' hC => ?_, hK _ ?_⟩
        · unfold Oper.quietAt
          go_simp
          first | with_reducible rfl | done
        clear hK K
        try simp only [Act.put, List.setIfInBounds_toArray, List.set_cons_zero, List.set_cons_succ]
        with_reducible refine BigFrame.wpQuiet_skip (by kernel_rfl) ?_
        try simp only [Act.put, List.setIfInBounds_toArray, List.set_cons_zero, List.set_cons_succ]
        with_reducible refine BigFrame.wpQuiet_skip (by kernel_rfl) ?_
        try simp only [Act.put, List.setIfInBounds_toArray, List.set_cons_zero, List.set_cons_succ]
        with_reducible refine BigFrame.wpQuiet_skip (by kernel_rfl) ?_
        try simp only [Act.put, List.setIfInBounds_toArray, List.set_cons_zero, List.set_cons_succ]
        with_reducible refine BigFrame.wpQuiet_skip (by kernel_rfl) ?_
        try simp only [Act.put, List.setIfInBounds_toArray, List.set_cons_zero, List.set_cons_succ]
        with_reducible refine BigFrame.wpQuiet_skip (by kernel_rfl) ?_
        try simp only [Act.put, List.setIfInBounds_toArray, List.set_cons_zero, List.set_cons_succ]
        with_reducible refine BigFrame.wpQuiet_skip (by kernel_rfl) ?_
        try simp only [Act.put, List.setIfInBounds_toArray, List.set_cons_zero, List.set_cons_succ]
        with_reducible refine BigFrame.wpQuiet_skip (by kernel_rfl) ?_
        try simp only [Act.put, List.setIfInBounds_toArray, List.set_cons_zero, List.set_cons_succ]
        with_reducible refine BigFrame.wpQuiet_skip (by kernel_rfl) ?_
        try simp only [Act.put, List.setIfInBounds_toArray, List.set_cons_zero, List.set_cons_succ]
        with_reducible refine BigFrame.wpQuiet_skip (by kernel_rfl) ?_
        try simp only [Act.put, List.setIfInBounds_toArray, List.set_cons_zero, List.set_cons_succ]
        with_reducible refine BigFrame.wpQuiet_skip (by kernel_rfl) ?_
        try simp only [Act.put, List.setIfInBounds_toArray, List.set_cons_zero, List.set_cons_succ]
        with_reducible refine BigFrame.wpQuiet_skip (by kernel_rfl) ?_
        try simp only [Act.put, List.setIfInBounds_toArray, List.set_cons_zero, List.set_cons_succ]
        with_reducible refine BigFrame.wpQuiet_skip (by kernel_rfl) ?_
        try simp only [Act.put, List.setIfInBounds_toArray, List.set_cons_zero, List.set_cons_succ]
        with_reducible refine BigFrame.wpQuiet_skip (by kernel_rfl) ?_
        try simp only [Act.put, List.setIfInBounds_toArray, List.set_cons_zero, List.set_cons_succ]
        with_reducible refine BigFrame.wpQuiet_skip (by kernel_rfl) ?_
        try simp only [Act.put, List.setIfInBounds_toArray, List.set_cons_zero, List.set_cons_succ]
        with_reducible refine BigFrame.wpQuiet_skip (by kernel_rfl) ?_
        try simp only [Act.put, List.setIfInBounds_toArray, List.set_cons_zero, List.set_cons_succ]
        with_reducible refine BigFrame.wpQuiet_skip (by kernel_rfl) ?_
        try simp only [Act.put, List.setIfInBounds_toArray, List.set_cons_zero, List.set_cons_succ]
        with_reducible refine BigFrame.wpQuiet_skip (by kernel_rfl) ?_
        try simp only [Act.put, List.setIfInBounds_toArray, List.set_cons_zero, List.set_cons_succ]
        with_reducible refine BigFrame.wpQuiet_skip (by kernel_rfl) ?_
        try simp only [Act.put, List.setIfInBounds_toArray, List.set_cons_zero, List.set_cons_succ]
        with_reducible refine BigFrame.wpQuiet_skip (by kernel_rfl) ?_
        try simp only [Act.put, List.setIfInBounds_toArray, List.set_cons_zero, List.set_cons_succ]
        with_reducible refine BigFrame.wpQuiet_skip (by kernel_rfl) ?_
        try simp only [Act.put, List.setIfInBounds_toArray, List.set_cons_zero, List.set_cons_succ]
        with_reducible refine BigFrame.wpQuiet_skip (by kernel_rfl) ?_
        try simp only [Act.put, List.setIfInBounds_toArray, List.set_cons_zero, List.set_cons_succ]
        with_reducible refine BigFrame.wpQuiet_skip (by kernel_rfl) ?_
        try simp only [Act.put, List.setIfInBounds_toArray, List.set_cons_zero, List.set_cons_succ]
        with_reducible refine BigFrame.wpQuiet_skip (by kernel_rfl) ?_
        try simp only [Act.put, List.setIfInBounds_toArray, List.set_cons_zero, List.set_cons_succ]
        with_reducible refine BigFrame.wpQuiet_skip (by kernel_rfl) ?_
        try simp only [Act.put, List.setIfInBounds_toArray, List.set_cons_zero, List.set_cons_succ]
        with_reducible refine BigFrame.wpQuiet_skip (by kernel_rfl) ?_
        try simp only [Act.put, List.setIfInBounds_toArray, List.set_cons_zero, List.set_cons_succ]
        with_reducible refine BigFrame.wpQuiet_skip (by kernel_rfl) ?_
        try simp only [Act.put, List.setIfInBounds_toArray, List.set_cons_zero, List.set_cons_succ]
        with_reducible refine BigFrame.wpQuiet_skip (by kernel_rfl) ?_
        try simp only [Act.put, List.setIfInBounds_toArray, List.set_cons_zero, List.set_cons_succ]
        with_reducible refine BigFrame.wpQuiet_skip (by kernel_rfl) ?_
        try simp only [Act.put, List.setIfInBounds_toArray, List.set_cons_zero, List.set_cons_succ]
        with_reducible refine BigFrame.wpQuiet_skip (by kernel_rfl) ?_
        try simp only [Act.put, List.setIfInBounds_toArray, List.set_cons_zero, List.set_cons_succ]
        with_reducible refine BigFrame.wpQuiet_skip (by kernel_rfl) ?_
        try simp only [Act.put, List.setIfInBounds_toArray, List.set_cons_zero, List.set_cons_succ]
        with_reducible refine BigFrame.wpQuiet_skip (by kernel_rfl) ?_
        try simp only [Act.put, List.setIfInBounds_toArray, List.set_cons_zero, List.set_cons_succ]
        with_reducible refine BigFrame.wpQuiet_skip (by kernel_rfl) ?_
        try simp only [Act.put, List.setIfInBounds_toArray, List.set_cons_zero, List.set_cons_succ]
        with_reducible refine BigFrame.wpQuiet_skip (by kernel_rfl) ?_
        try simp only [Act.put, List.setIfInBounds_toArray, List.set_cons_zero, List.set_cons_succ]
        with_reducible refine BigFrame.wpQuiet_skip (by kernel_rfl) ?_
        try simp only [Act.put, List.setIfInBounds_toArray, List.set_cons_zero, List.set_cons_succ]
        with_reducible refine BigFrame.wpQuiet_skip (by kernel_rfl) ?_
        try simp only [Act.put, List.setIfInBounds_toArray, List.set_cons_zero, List.set_cons_succ]
        with_reducible refine BigFrame.wpQuiet_skip (by kernel_rfl) ?_
        try simp only [Act.put, List.setIfInBounds_toArray, List.set_cons_zero, List.set_cons_succ]
        with_reducible refine BigFrame.wpQuiet_skip (by kernel_rfl) ?_
        try simp only [Act.put, List.setIfInBounds_toArray, List.set_cons_zero, List.set_cons_succ]
        with_reducible refine BigFrame.wpQuiet_skip (by kernel_rfl) ?_
        try simp only [Act.put, List.setIfInBounds_toArray, List.set_cons_zero, List.set_cons_succ]
        with_reducible refine BigFrame.wpQuiet_skip (by kernel_rfl) ?_
        try simp only [Act.put, List.setIfInBounds_toArray, List.set_cons_zero, List.set_cons_succ]
        with_reducible refine BigFrame.wpQuiet_skip (by kernel_rfl) ?_
        try simp only [Act.put, List.setIfInBounds_toArray, List.set_cons_zero, List.set_cons_succ]
        with_reducible refine BigFrame.wpQuiet_want (by kernel_rfl) (fun K hK => ?_)
        apply Exists.intro
        refine ⟨fun w' hC => ?_, hK _ ?_⟩
        · unfold Oper.quietAt
          go_simp
          first | with_reducible rfl | done
        clear hK K
        try simp only [Act.put, List.setIfInBounds_toArray, List.set_cons_zero, List.set_cons_succ]
        refine wpQuiet_nil ?_
        intro w9 hb9
        have HB9 := hid (HB.out.trans (hb9.mono HB.out.size))
        have HBx := hid (HB8.out.trans (HB9.out.mono HB8.out.size))
        have HN9 := hid ((hb9.block _ (Array.getElem?_eq_some_iff.1 HNw.out).1).trans HNw.out)
        have HC9 := hid (HCV8.out.below HB9.out)
        obtain ⟨sy, hsy⟩ : ∃ sy, (behV G x).getD 0 = sy := ⟨_, rfl⟩
        obtain ⟨ok, hok⟩ : ∃ ok, (behV G x).isSome = ok := ⟨_, rfl⟩
        have HBX := hid (show behV G x = if ok = true then some sy else none from by
          rw [← hsy, ← hok]
          cases behV G x <;> rfl)
        have hKB : ∀ w', Below w9.heap.size w9 w' → Calls Tryd.prog 12 #[.agg #[tv, ov, sv, .slice pa np pc, .int .i64 G.start], .agg #[.int .i64 x.1, .int .i64 x.2]] w' fun e w'' => e = .returned (.tuple #[.int .i64 sy, .bool ok]) ∧ Below w'.heap.size w' w'' := fun w' hC => by
          have h2 := Behind_any (HGr.out.below (HBx.out.trans (hC.mono HBx.out.size))) x
          unfold BehVP at h2
          rw [hsy, hok] at h2
          exact h2
        have KB := hid hKB
        have HS0 : Hid (∀ w', Below w9.heap.size w9 w' → w'.cell? ⟨lb, lo, none⟩ = some (.int .i64 x.1)) := hid fun w' hC => by simpa using HQ0.out w' (hb9.trans (hC.mono hb9.size))
        have HS1 : Hid (∀ w', Below w9.heap.size w9 w' → w'.cell? ⟨lb, lo + 1, none⟩ = some (.int .i64 x.2)) := hid fun w' hC => by simpa using HQ1.out w' (hb9.trans (hC.mono hb9.size))
        have HC0 : Hid (∀ w', Below w9.heap.size w9 w' → w'.cell? ⟨w.heap.size, 0, none⟩ = some (tv)) := hid fun w' hC => cell_below hC (Lib.cell_of_heap HN9.out 0)
        have HC1 : Hid (∀ w', Below w9.heap.size w9 w' → w'.cell? ⟨w.heap.size, 1, none⟩ = some (ov)) := hid fun w' hC => cell_below hC (Lib.cell_of_heap HN9.out 1)
        have HC2 : Hid (∀ w', Below w9.heap.size w9 w' → w'.cell? ⟨w.heap.size, 2, none⟩ = some (sv)) := hid fun w' hC => cell_below hC (Lib.cell_of_heap HN9.out 2)
        have HC3 : Hid (∀ w', Below w9.heap.size w9 w' → w'.cell? ⟨w.heap.size, 3, none⟩ = some (.slice pa np pc)) := hid fun w' hC => cell_below hC (Lib.cell_of_heap HN9.out 3)
        have HC4 : Hid (∀ w', Below w9.heap.size w9 w' → w'.cell? ⟨w.heap.size, 4, none⟩ = some (.int .i64 G.start)) := hid fun w' hC => cell_below hC (Lib.cell_of_heap HN9.out 4)
        clear hb9 hKB hsy hok
        have HXM := hid (List.mem_of_getElem? hx)
        clear hx p0 p1
        go_wp2_with fail
        refine wp_region_below (by kernel_rfl) (by kernel_rfl) ?_
        with_reducible refine BigFrame.wpQuiet_want (by kernel_rfl) (fun K hK => ?_)
        apply Exists.intro
        refine ⟨fun w' hC => ?_, hK _ ?_⟩
        · have f0' := HS0.out w' hC
          have f1' := HS1.out w' hC
          have f2' := HC0.out w' hC
          have f3' := HC1.out w' hC
          have f4' := HC2.out w' hC
          have f5' := HC3.out w' hC
          have f6' := HC4.out w' hC
          unfold Oper.quietAt
          go_simp
          first | with_reducible rfl | done
        clear hK K
        try simp only [Act.put, List.setIfInBounds_toArray, List.set_cons_zero, List.set_cons_succ]
        with_reducible refine BigFrame.wpQuiet_want (by kernel_rfl) (fun K hK => ?_)
        apply Exists.intro
        refine ⟨fun w' hC => ?_, hK _ ?_⟩
        · unfold Oper.quietAt
          go_simp
          first | with_reducible rfl | done
        clear hK K
        try simp only [Act.put, List.setIfInBounds_toArray, List.set_cons_zero, List.set_cons_succ]
        with_reducible refine BigFrame.wpQuiet_want (by kernel_rfl) (fun K hK => ?_)
        apply Exists.intro
        refine ⟨fun w' hC => ?_, hK _ ?_⟩
        · unfold Oper.quietAt
          go_simp
          first | with_reducible rfl | done
        clear hK K
        try simp only [Act.put, List.setIfInBounds_toArray, List.set_cons_zero, List.set_cons_succ]
        with_reducible refine BigFrame.wpQuiet_want (by kernel_rfl) (fun K hK => ?_)
        apply Exists.intro
        refine ⟨fun w' hC => ?_, hK _ ?_⟩
        · unfold Oper.quietAt
          go_simp
          first | with_reducible rfl | done
        clear hK K
        try simp only [Act.put, List.setIfInBounds_toArray, List.set_cons_zero, List.set_cons_succ]
        with_reducible refine BigFrame.wpQuiet_want (by kernel_rfl) (fun K hK => ?_)
        apply Exists.intro
        refine ⟨fun w' hC => ?_, hK _ ?_⟩
        · have f0' := HS0.out w' hC
          have f1' := HS1.out w' hC
          have f2' := HC0.out w' hC
          have f3' := HC1.out w' hC
          have f4' := HC2.out w' hC
          have f5' := HC3.out w' hC
          have f6' := HC4.out w' hC
          unfold Oper.quietAt
          go_simp
          first | with_reducible rfl | done
        clear hK K
        try simp only [Act.put, List.setIfInBounds_toArray, List.set_cons_zero, List.set_cons_succ]
        with_reducible refine BigFrame.wpQuiet_want (by kernel_rfl) (fun K hK => ?_)
        apply Exists.intro
        refine ⟨fun w' hC => ?_, hK _ ?_⟩
        · unfold Oper.quietAt
          go_simp
          first
            | with_reducible exact below_call hC (Nat.le_refl _) (KB.out w' hC)
        clear hK K
        try simp only [Act.put, List.setIfInBounds_toArray, List.set_cons_zero, List.set_cons_succ]
        with_reducible refine BigFrame.wpQuiet_want (by kernel_rfl) (fun K hK => ?_)
        apply Exists.intro
        refine ⟨fun w' hC => ?_, hK _ ?_⟩
        · unfold Oper.quietAt
          go_simp
          first | with_reducible rfl | done
        clear hK K
        try simp only [Act.put, List.setIfInBounds_toArray, List.set_cons_zero, List.set_cons_succ]
        with_reducible refine BigFrame.wpQuiet_want (by kernel_rfl) (fun K hK => ?_)
        apply Exists.intro
        refine ⟨fun w' hC => ?_, hK _ ?_⟩
        · unfold Oper.quietAt
          go_simp
          first | with_reducible rfl | done
        clear hK K
        try simp only [Act.put, List.setIfInBounds_toArray, List.set_cons_zero, List.set_cons_succ]
        with_reducible refine BigFrame.wpQuiet_want (by kernel_rfl) (fun K hK => ?_)
        apply Exists.intro
        refine ⟨fun w' hC => ?_, hK _ ?_⟩
        · unfold Oper.quietAt
          go_simp
          first | with_reducible rfl | done
        clear hK K
        try simp only [Act.put, List.setIfInBounds_toArray, List.set_cons_zero, List.set_cons_succ]
        with_reducible refine BigFrame.wpQuiet_want (by kernel_rfl) (fun K hK => ?_)
        apply Exists.intro
        refine ⟨fun w' hC => ?_, hK _ ?_⟩
        · unfold Oper.quietAt
          go_simp
          first | with_reducible rfl | done
        clear hK K
        try simp only [Act.put, List.setIfInBounds_toArray, List.set_cons_zero, List.set_cons_succ]
        with_reducible refine BigFrame.wpQuiet_want (by kernel_rfl) (fun K hK => ?_)
        apply Exists.intro
        refine ⟨fun w' hC => ?_, hK _ ?_⟩
        · unfold Oper.quietAt
          go_simp
          first | with_reducible rfl | done
        clear hK K
        try simp only [Act.put, List.setIfInBounds_toArray, List.set_cons_zero, List.set_cons_succ]
        refine wpQuiet_nil ?_
        intro w10 hb10
        have HB10 := hid (HB9.out.trans (hb10.mono HB9.out.size))
        clear hb10
        go_wp2_with fail
        go_loopw [12, 13, 14] (fun t12 t13 t14 wz => ∃ p : Nat, p ≤ np ∧ t12 = .int .i64 (p : Int) ∧ Hid (Below w8.heap.size w8 wz)) (fun t12 _ _ _ => np - (RowKit.intOf t12).toNat)
        case atStart => exact ⟨0, Nat.zero_le _, rfl, HB10⟩
        case round =>
          obtain ⟨p, hp, rfl, HBp⟩ := hrel
          have HBpw := hid (HB8.out.trans (HBp.out.mono HB8.out.size))
          have HNp := hid ((HBp.out.block _ (Array.getElem?_eq_some_iff.1 HN8.out).1).trans HN8.out)
          have HCp := hid (HCV8.out.below HBp.out)
          have c3 : wr.cell? ⟨w.heap.size, 3, none⟩ = some (.slice pa np pc) := Lib.cell_of_heap HNp.out 3
          by_cases hpl : p < np
          · have s1 : (p : Int) < (np : Int) := by omega
            have s2 : (0 : Int) ≤ (p : Int) := by omega
            cases ok
            · go_wp2_with fail
              refine ⟨⟨0 + 1, by omega, rfl, HBp⟩, ?_⟩
              show m - (((0 : Nat) : Int) + 1).toNat < m - (((0 : Nat) : Int)).toNat
              omega
            by_cases hs0 : sy < 0
            case neg =>
              have hs1 : decide (sy < 0) = false := decide_eq_false hs0
              go_wp2_with fail
              refine ⟨⟨0 + 1, by omega, rfl, HBp⟩, ?_⟩
              show m - (((0 : Nat) : Int) + 1).toNat < m - (((0 : Nat) : Int)).toNat
              omega
            go_wp2_with fail
            go_loopw [13, 14] (fun t13 t14 wz => ∃ k : Nat, k ≤ m ∧ t14 = .int .i64 (k : Int) ∧ (∃ ib, t13 = .bool ib ∧ Hid (ib = decide (((p : Int), (0 : Int)) ∈ C.take k))) ∧ wz = wr) (fun _ t14 _ => m - (RowKit.intOf t14).toNat)
            case atStart => exact ⟨0, Nat.zero_le _, rfl, ⟨false, rfl, hid (by simp)⟩, rfl⟩
            case round =>
              obtain ⟨k, hkm, rfl, ⟨ib, rfl, HIB⟩, hww⟩ := hrel
              subst hww
              by_cases hkl : k < m
              · have u1 : (k : Int) < (m : Int) := by omega
                have u2 : (0 : Int) ≤ (k : Int) := by omega
                obtain ⟨z, hz⟩ : ∃ z, C[k]? = some z := ⟨_, List.getElem?_eq_getElem (by rw [HM.out]; exact hkl)⟩
                obtain ⟨lb3, lo3, elo3, g0, g1⟩ := HCp.out.at_ hz
                injection elo3 with elo3
                injection elo3 with elb3 elo3
                subst elb3
                subst elo3
                obtain ⟨be, hbe⟩ : ∃ be, (decide (z.1 = (p : Int)) && decide (z.2 = 0)) = be := ⟨_, rfl⟩
                have hE : ∀ w', (Op.equalIn 10000 37 (.agg #[.int .i64 z.1, .int .i64 z.2]) (.agg #[.int .i64 (p : Int), .int .i64 0])).run Tryd.prog w' = .ok be w' := fun w' => by rw [← hbe]; exact eql37 _ _ _ _ w'
                have HIB2 := hid (show (ib || be) = decide (((p : Int), (0 : Int)) ∈ C.take (k + 1)) from by
                  rw [List.take_add_one, hz, HIB.out, ← hbe]
                  have e := it_eq z ((p : Int), (0 : Int))
                  dsimp only at e
                  rw [e]
                  by_cases q1 : ((p : Int), (0 : Int)) ∈ C.take k
                  · simp [q1]
                  · by_cases q2 : z = ((p : Int), (0 : Int))
                    · simp [q1, q2]
                    · have q3 : ¬ ((p : Int), (0 : Int)) = z := fun e => q2 e.symm
                      simp [q1, q2, q3])
                clear hbe hz
                cases ib
                · cases be
                  · go_wp2_with fail
                    refine ⟨⟨k + 1, by omega, rfl, ⟨false, rfl, hid (by simpa using HIB2.out)⟩, by first | trivial | rfl⟩, ?_⟩
                    show m - ((k : Int) + 1).toNat < m - ((k : Int)).toNat
                    omega
                  · go_wp2_with fail
                    refine ⟨⟨k + 1, by omega, rfl, ⟨true, rfl, hid (by simpa using HIB2.out)⟩, by first | trivial | rfl⟩, ?_⟩
                    show m - ((k : Int) + 1).toNat < m - ((k : Int)).toNat
                    omega
                · go_wp2_with fail
                  refine ⟨⟨k + 1, by omega, rfl, ⟨true, rfl, hid (by simpa using HIB2.out)⟩, by first | trivial | rfl⟩, ?_⟩
                  show m - ((k : Int) + 1).toNat < m - ((k : Int)).toNat
                  omega
              · have u1 : ¬ (k : Int) < (m : Int) := by omega
                have hke : k = m := by omega
                have HIB3 := hid (show ib = decide (((p : Int), (0 : Int)) ∈ C) from by
                  have := HIB.out
                  rw [hke, ← HM.out, List.take_length] at this
                  exact this)
                have hbb : behV G x = some sy := by rw [HBX.out]; first | rfl | simp
                have hval := HIN.out x HXM.out
                have hbx2 : behX G x = some sy := by
                  unfold behV at hbb
                  rw [if_pos hval] at hbb
                  exact hbb
                have hsr := beh_sort hval hbx2 hs0
                have hs60 := (valid_parts hval).2.1
                obtain ⟨t, hst⟩ : ∃ t : Nat, -1 - sy = (t : Int) := ⟨(-1 - sy).toNat, by omega⟩
                have ht60 : t < 60 := by omega
                obtain ⟨pb, po, rfl, hpq⟩ := HPC.out (by rw [HNP.out]; omega)
                have hq := (hpq p (by rw [HNP.out]; exact hpl)).2.1
                obtain ⟨sp, hsp⟩ : ∃ sp, (G.prods.getD p default).sort = sp := ⟨_, rfl⟩
                rw [hsp] at hq
                have hq := cell_below HBpw.out hq
                clear hke hbb hval hbx2 hsr hs60 hpq
                by_cases hse : sp = (t : Int)
                · obtain rfl : true = ib := by
                    rw [HIB3.out]
                    refine (decide_eq_true (HST.out x sy p HXM.out ?_ hs0 (by rw [HNP.out]; exact hpl) ?_)).symm
                    · rw [HBX.out]; first | rfl | simp
                    · show (G.prods.getD p default).sort = _
                      rw [hsp, hse, hst]
                  subst hse
                  clear hsp
                  go_wp2_with fail
                  first | refine ⟨⟨p + 1, by omega, rfl, HBp⟩, ?_⟩ | refine ⟨⟨p + 1, by omega, by omega⟩, ?_⟩
                  show np - ((p : Int) + 1).toNat < np - ((p : Int)).toNat
                  omega
                · have hse2 : (sp == (t : Int)) = false := by rw [beq_eq_false_iff_ne]; exact hse
                  clear hsp
                  go_wp2_with fail
                  first | refine ⟨⟨p + 1, by omega, rfl, HBp⟩, ?_⟩ | refine ⟨⟨p + 1, by omega, by omega⟩, ?_⟩
                  show np - ((p : Int) + 1).toNat < np - ((p : Int)).toNat
                  omega
          · have s1 : ¬ (p : Int) < (np : Int) := by omega
            go_wp2_with fail
            refine ⟨⟨0 + 1, by omega, rfl, HBp⟩, ?_⟩
            show m - (((0 : Nat) : Int) + 1).toNat < m - (((0 : Nat) : Int)).toNat
            omega
      · obtain ⟨j, rfl⟩ : ∃ j, i = j + 1 := ⟨i - 1, by omega⟩
        obtain ⟨y, hy⟩ : ∃ y, C[j]? = some y := ⟨_, List.getElem?_eq_getElem (by rw [HM.out]; omega)⟩
        have hless : Less y x := by
          have h1 := (List.pairwise_iff_getElem.1 HRISE.out) j (j + 1) (by rw [HM.out]; omega) (by rw [HM.out]; omega) (by omega)
          have e1 : C[j]'(by rw [HM.out]; omega) = y := by
            have := hy
            rw [List.getElem?_eq_getElem (by rw [HM.out]; omega)] at this
            exact Option.some.inj this
          have e2 : C[j + 1]'(by rw [HM.out]; omega) = x := by
            have := hx
            rw [List.getElem?_eq_getElem (by rw [HM.out]; omega)] at this
            exact Option.some.inj this
          rw [e1, e2] at h1
          exact h1
        obtain ⟨lb', lo', elo, r0, r1⟩ := HCw.out.at_ hy
        injection elo with elo
        injection elo with elb elo
        subst elb
        subst elo
        have HR0 : Hid (∀ w', Below wr.heap.size wr w' → w'.cell? ⟨lb, lo + j * 2, none⟩ = some (.int .i64 y.1)) := hid fun w' hC => cell_below hC r0
        have HR1 : Hid (∀ w', Below wr.heap.size wr w' → w'.cell? ⟨lb, lo + j * 2 + 1, none⟩ = some (.int .i64 y.2)) := hid fun w' hC => cell_below hC r1
        have j0 : (0 : Int) ≤ (j : Int) := by omega
        have j1 : (j : Int) < (m : Int) := by omega
        have j2 : (0 : Int) < ((j + 1 : Nat) : Int) := by omega
        have j3 : IntKind.i64.wrap (((j + 1 : Nat) : Int) - 1) = (j : Int) := by rw [wrap_small (by omega) (by omega)]; omega
        have j6 : (0 : Int) ≤ (j : Int) + 1 := by omega
        have j7 : (j : Int) + 1 < (m : Int) := by omega
        have j5 : IntKind.i64.wrap (j : Int) = (j : Int) := wrap_small (by omega) (by omega)
        have j4 : IntKind.i64.wrap ((j : Int) + 1 - 1) = (j : Int) := by rw [wrap_small (by omega) (by omega)]; omega
        clear hy r0 r1 hz
        by_cases hl : y.1 < x.1
        · have k1 : decide (x.1 < y.1) = false := decide_eq_false (by omega)
          have k2 : (y.1 == x.1) = false := by rw [beq_eq_false_iff_ne]; omega
          clear hless
          go_wp2_with fail
          refine wp_region_below (by kernel_rfl) (by kernel_rfl) ?_
          with_reducible refine BigFrame.wpQuiet_want (by kernel_rfl) (fun K hK => ?_)
          apply Exists.intro
          refine ⟨fun w' hC => ?_, hK _ ?_⟩
          · unfold Oper.quietAt
            go_simp
            first | with_reducible rfl | done
          clear hK K
          try simp only [Act.put, List.setIfInBounds_toArray, List.set_cons_zero, List.set_cons_succ]
          with_reducible refine BigFrame.wpQuiet_want (by kernel_rfl) (fun K hK => ?_)
          apply Exists.intro
          refine ⟨fun w' hC => ?_, hK _ ?_⟩
          · unfold Oper.quietAt
            go_simp
            first | with_reducible rfl | done
          clear hK K
          try simp only [Act.put, List.setIfInBounds_toArray, List.set_cons_zero, List.set_cons_succ]
          with_reducible refine BigFrame.wpQuiet_want (by kernel_rfl) (fun K hK => ?_)
          apply Exists.intro
          refine ⟨fun w' hC => ?_, hK _ ?_⟩
          · unfold Oper.quietAt
            go_simp
            first | with_reducible rfl | done
          clear hK K
          try simp only [Act.put, List.setIfInBounds_toArray, List.set_cons_zero, List.set_cons_succ]
          with_reducible refine BigFrame.wpQuiet_want (by kernel_rfl) (fun K hK => ?_)
          apply Exists.intro
          refine ⟨fun w' hC => ?_, hK _ ?_⟩
          · unfold Oper.quietAt
            go_simp
            first | with_reducible rfl | done
          clear hK K
          try simp only [Act.put, List.setIfInBounds_toArray, List.set_cons_zero, List.set_cons_succ]
          with_reducible refine BigFrame.wpQuiet_want (by kernel_rfl) (fun K hK => ?_)
          apply Exists.intro
          refine ⟨fun w' hC => ?_, hK _ ?_⟩
          · unfold Oper.quietAt
            go_simp
            first | with_reducible rfl | done
          clear hK K
          try simp only [Act.put, List.setIfInBounds_toArray, List.set_cons_zero, List.set_cons_succ]
          with_reducible refine BigFrame.wpQuiet_want (by kernel_rfl) (fun K hK => ?_)
          apply Exists.intro
          refine ⟨fun w' hC => ?_, hK _ ?_⟩
          · unfold Oper.quietAt
            go_simp
            first | with_reducible rfl | done
          clear hK K
          try simp only [Act.put, List.setIfInBounds_toArray, List.set_cons_zero, List.set_cons_succ]
          with_reducible refine BigFrame.wpQuiet_want (by kernel_rfl) (fun K hK => ?_)
          apply Exists.intro
          refine ⟨fun w' hC => ?_, hK _ ?_⟩
          · unfold Oper.quietAt
            go_simp
            first | with_reducible rfl | done
          clear hK K
          try simp only [Act.put, List.setIfInBounds_toArray, List.set_cons_zero, List.set_cons_succ]
          with_reducible refine BigFrame.wpQuiet_want (by kernel_rfl) (fun K hK => ?_)
          apply Exists.intro
          refine ⟨fun w' hC => ?_, hK _ ?_⟩
          · unfold Oper.quietAt
            go_simp
            first | with_reducible rfl | done
          clear hK K
          try simp only [Act.put, List.setIfInBounds_toArray, List.set_cons_zero, List.set_cons_succ]
          with_reducible refine BigFrame.wpQuiet_want (by kernel_rfl) (fun K hK => ?_)
          apply Exists.intro
          refine ⟨fun w' hC => ?_, hK _ ?_⟩
          · have f0' := HQ0.out w' hC
            have f1' := HQ1.out w' hC
            have f2' := HR0.out w' hC
            have f3' := HR1.out w' hC
            unfold Oper.quietAt
            go_simp
            first | with_reducible rfl | done
          clear hK K
          try simp only [Act.put, List.setIfInBounds_toArray, List.set_cons_zero, List.set_cons_succ]
          with_reducible refine BigFrame.wpQuiet_want (by kernel_rfl) (fun K hK => ?_)
          apply Exists.intro
          refine ⟨fun w' hC => ?_, hK _ ?_⟩
          · unfold Oper.quietAt
            go_simp
            first | with_reducible rfl | done
          clear hK K
          try simp only [Act.put, List.setIfInBounds_toArray, List.set_cons_zero, List.set_cons_succ]
          with_reducible refine BigFrame.wpQuiet_want (by kernel_rfl) (fun K hK => ?_)
          apply Exists.intro
          refine ⟨fun w' hC => ?_, hK _ ?_⟩
          · unfold Oper.quietAt
            go_simp
            first | with_reducible rfl | done
          clear hK K
          try simp only [Act.put, List.setIfInBounds_toArray, List.set_cons_zero, List.set_cons_succ]
          with_reducible refine BigFrame.wpQuiet_want (by kernel_rfl) (fun K hK => ?_)
          apply Exists.intro
          refine ⟨fun w' hC => ?_, hK _ ?_⟩
          · unfold Oper.quietAt
            go_simp
            first | with_reducible rfl | done
          clear hK K
          try simp only [Act.put, List.setIfInBounds_toArray, List.set_cons_zero, List.set_cons_succ]
          with_reducible refine BigFrame.wpQuiet_want (by kernel_rfl) (fun K hK => ?_)
          apply Exists.intro
          refine ⟨fun w' hC => ?_, hK _ ?_⟩
          · unfold Oper.quietAt
            go_simp
            first | with_reducible rfl | done
          clear hK K
          try simp only [Act.put, List.setIfInBounds_toArray, List.set_cons_zero, List.set_cons_succ]
          with_reducible refine BigFrame.wpQuiet_want (by kernel_rfl) (fun K hK => ?_)
          apply Exists.intro
          refine ⟨fun w' hC => ?_, hK _ ?_⟩
          · have f0' := HQ0.out w' hC
            have f1' := HQ1.out w' hC
            have f2' := HR0.out w' hC
            have f3' := HR1.out w' hC
            unfold Oper.quietAt
            go_simp
            first | with_reducible rfl | done
          clear hK K
          try simp only [Act.put, List.setIfInBounds_toArray, List.set_cons_zero, List.set_cons_succ]
          with_reducible refine BigFrame.wpQuiet_want (by kernel_rfl) (fun K hK => ?_)
          apply Exists.intro
          refine ⟨fun w' hC => ?_, hK _ ?_⟩
          · unfold Oper.quietAt
            go_simp
            first | with_reducible rfl | done
          clear hK K
          try simp only [Act.put, List.setIfInBounds_toArray, List.set_cons_zero, List.set_cons_succ]
          with_reducible refine BigFrame.wpQuiet_want (by kernel_rfl) (fun K hK => ?_)
          apply Exists.intro
          refine ⟨fun w' hC => ?_, hK _ ?_⟩
          · unfold Oper.quietAt
            go_simp
            first | with_reducible rfl | done
          clear hK K
          try simp only [Act.put, List.setIfInBounds_toArray, List.set_cons_zero, List.set_cons_succ]
          with_reducible refine BigFrame.wpQuiet_want (by kernel_rfl) (fun K hK => ?_)
          apply Exists.intro
          refine ⟨fun w' hC => ?_, hK _ ?_⟩
          · unfold Oper.quietAt
            go_simp
            first | with_reducible rfl | done
          clear hK K
          try simp only [Act.put, List.setIfInBounds_toArray, List.set_cons_zero, List.set_cons_succ]
          with_reducible refine BigFrame.wpQuiet_want (by kernel_rfl) (fun K hK => ?_)
          apply Exists.intro
          refine ⟨fun w' hC => ?_, hK _ ?_⟩
          · unfold Oper.quietAt
            go_simp
            first | with_reducible rfl | done
          clear hK K
          try simp only [Act.put, List.setIfInBounds_toArray, List.set_cons_zero, List.set_cons_succ]
          with_reducible refine BigFrame.wpQuiet_want (by kernel_rfl) (fun K hK => ?_)
          apply Exists.intro
          refine ⟨fun w' hC => ?_, hK _ ?_⟩
          · unfold Oper.quietAt
            go_simp
            first | with_reducible rfl | done
          clear hK K
          try simp only [Act.put, List.setIfInBounds_toArray, List.set_cons_zero, List.set_cons_succ]
          with_reducible refine BigFrame.wpQuiet_want (by kernel_rfl) (fun K hK => ?_)
          apply Exists.intro
          refine ⟨fun w' hC => ?_, hK _ ?_⟩
          · unfold Oper.quietAt
            go_simp
            first | with_reducible rfl | done
          clear hK K
          try simp only [Act.put, List.setIfInBounds_toArray, List.set_cons_zero, List.set_cons_succ]
          with_reducible refine BigFrame.wpQuiet_want (by kernel_rfl) (fun K hK => ?_)
          apply Exists.intro
          refine ⟨fun w' hC => ?_, hK _ ?_⟩
          · unfold Oper.quietAt
            go_simp
            first | with_reducible rfl | done
          clear hK K
          try simp only [Act.put, List.setIfInBounds_toArray, List.set_cons_zero, List.set_cons_succ]
          with_reducible refine BigFrame.wpQuiet_want (by kernel_rfl) (fun K hK => ?_)
          apply Exists.intro
          refine ⟨fun w' hC => ?_, hK _ ?_⟩
          · have f0' := HQ0.out w' hC
            have f1' := HQ1.out w' hC
            have f2' := HR0.out w' hC
            have f3' := HR1.out w' hC
            unfold Oper.quietAt
            go_simp
            first | with_reducible rfl | done
          clear hK K
          try simp only [Act.put, List.setIfInBounds_toArray, List.set_cons_zero, List.set_cons_succ]
          with_reducible refine BigFrame.wpQuiet_want (by kernel_rfl) (fun K hK => ?_)
          apply Exists.intro
          refine ⟨fun w' hC => ?_, hK _ ?_⟩
          · unfold Oper.quietAt
            go_simp
            first | with_reducible rfl | done
          clear hK K
          try simp only [Act.put, List.setIfInBounds_toArray, List.set_cons_zero, List.set_cons_succ]
          with_reducible refine BigFrame.wpQuiet_want (by kernel_rfl) (fun K hK => ?_)
          apply Exists.intro
          refine ⟨fun w' hC => ?_, hK _ ?_⟩
          · unfold Oper.quietAt
            go_simp
            first | with_reducible rfl | done
          clear hK K
          try simp only [Act.put, List.setIfInBounds_toArray, List.set_cons_zero, List.set_cons_succ]
          with_reducible refine BigFrame.wpQuiet_want (by kernel_rfl) (fun K hK => ?_)
          apply Exists.intro
          refine ⟨fun w' hC => ?_, hK _ ?_⟩
          · unfold Oper.quietAt
            go_simp
            first | with_reducible rfl | done
          clear hK K
          try simp only [Act.put, List.setIfInBounds_toArray, List.set_cons_zero, List.set_cons_succ]
          with_reducible refine BigFrame.wpQuiet_want (by kernel_rfl) (fun K hK => ?_)
          apply Exists.intro
          refine ⟨fun w' hC => ?_, hK _ ?_⟩
          · unfold Oper.quietAt
            go_simp
            first | with_reducible rfl | done
          clear hK K
          try simp only [Act.put, List.setIfInBounds_toArray, List.set_cons_zero, List.set_cons_succ]
          with_reducible refine BigFrame.wpQuiet_want (by kernel_rfl) (fun K hK => ?_)
          apply Exists.intro
          refine ⟨fun w' hC => ?_, hK _ ?_⟩
          · have f0' := HQ0.out w' hC
            have f1' := HQ1.out w' hC
            have f2' := HR0.out w' hC
            have f3' := HR1.out w' hC
            unfold Oper.quietAt
            go_simp
            first | with_reducible rfl | done
          clear hK K
          try simp only [Act.put, List.setIfInBounds_toArray, List.set_cons_zero, List.set_cons_succ]
          with_reducible refine BigFrame.wpQuiet_want (by kernel_rfl) (fun K hK => ?_)
          apply Exists.intro
          refine ⟨fun w' hC => ?_, hK _ ?_⟩
          · unfold Oper.quietAt
            go_simp
            first | with_reducible rfl | done
          clear hK K
          try simp only [Act.put, List.setIfInBounds_toArray, List.set_cons_zero, List.set_cons_succ]
          with_reducible refine BigFrame.wpQuiet_want (by kernel_rfl) (fun K hK => ?_)
          apply Exists.intro
          refine ⟨fun w' hC => ?_, hK _ ?_⟩
          · unfold Oper.quietAt
            go_simp
            first | with_reducible rfl | done
          clear hK K
          try simp only [Act.put, List.setIfInBounds_toArray, List.set_cons_zero, List.set_cons_succ]
          with_reducible refine BigFrame.wpQuiet_skip (by kernel_rfl) ?_
          try simp only [Act.put, List.setIfInBounds_toArray, List.set_cons_zero, List.set_cons_succ]
          with_reducible refine BigFrame.wpQuiet_skip (by kernel_rfl) ?_
          try simp only [Act.put, List.setIfInBounds_toArray, List.set_cons_zero, List.set_cons_succ]
          with_reducible refine BigFrame.wpQuiet_skip (by kernel_rfl) ?_
          try simp only [Act.put, List.setIfInBounds_toArray, List.set_cons_zero, List.set_cons_succ]
          with_reducible refine BigFrame.wpQuiet_skip (by kernel_rfl) ?_
          try simp only [Act.put, List.setIfInBounds_toArray, List.set_cons_zero, List.set_cons_succ]
          with_reducible refine BigFrame.wpQuiet_skip (by kernel_rfl) ?_
          try simp only [Act.put, List.setIfInBounds_toArray, List.set_cons_zero, List.set_cons_succ]
          with_reducible refine BigFrame.wpQuiet_skip (by kernel_rfl) ?_
          try simp only [Act.put, List.setIfInBounds_toArray, List.set_cons_zero, List.set_cons_succ]
          with_reducible refine BigFrame.wpQuiet_skip (by kernel_rfl) ?_
          try simp only [Act.put, List.setIfInBounds_toArray, List.set_cons_zero, List.set_cons_succ]
          with_reducible refine BigFrame.wpQuiet_skip (by kernel_rfl) ?_
          try simp only [Act.put, List.setIfInBounds_toArray, List.set_cons_zero, List.set_cons_succ]
          with_reducible refine BigFrame.wpQuiet_skip (by kernel_rfl) ?_
          try simp only [Act.put, List.setIfInBounds_toArray, List.set_cons_zero, List.set_cons_succ]
          with_reducible refine BigFrame.wpQuiet_skip (by kernel_rfl) ?_
          try simp only [Act.put, List.setIfInBounds_toArray, List.set_cons_zero, List.set_cons_succ]
          with_reducible refine BigFrame.wpQuiet_skip (by kernel_rfl) ?_
          try simp only [Act.put, List.setIfInBounds_toArray, List.set_cons_zero, List.set_cons_succ]
          with_reducible refine BigFrame.wpQuiet_skip (by kernel_rfl) ?_
          try simp only [Act.put, List.setIfInBounds_toArray, List.set_cons_zero, List.set_cons_succ]
          with_reducible refine BigFrame.wpQuiet_want (by kernel_rfl) (fun K hK => ?_)
          apply Exists.intro
          refine ⟨fun w' hC => ?_, hK _ ?_⟩
          · unfold Oper.quietAt
            go_simp
            first | with_reducible rfl | done
          clear hK K
          try simp only [Act.put, List.setIfInBounds_toArray, List.set_cons_zero, List.set_cons_succ]
          with_reducible refine BigFrame.wpQuiet_want (by kernel_rfl) (fun K hK => ?_)
          apply Exists.intro
          refine ⟨fun w' hC => ?_, hK _ ?_⟩
          · unfold Oper.quietAt
            go_simp
            first | with_reducible rfl | done
          clear hK K
          try simp only [Act.put, List.setIfInBounds_toArray, List.set_cons_zero, List.set_cons_succ]
          with_reducible refine BigFrame.wpQuiet_want (by kernel_rfl) (fun K hK => ?_)
          apply Exists.intro
          refine ⟨fun w' hC => ?_, hK _ ?_⟩
          · unfold Oper.quietAt
            go_simp
            first | with_reducible rfl | done
          clear hK K
          try simp only [Act.put, List.setIfInBounds_toArray, List.set_cons_zero, List.set_cons_succ]
          refine wpQuiet_nil ?_
          intro w9 hb9
          have HB9 := hid (HB.out.trans (hb9.mono HB.out.size))
          have HBx := hid (HB8.out.trans (HB9.out.mono HB8.out.size))
          have HN9 := hid ((hb9.block _ (Array.getElem?_eq_some_iff.1 HNw.out).1).trans HNw.out)
          have HC9 := hid (HCV8.out.below HB9.out)
          obtain ⟨sy, hsy⟩ : ∃ sy, (behV G x).getD 0 = sy := ⟨_, rfl⟩
          obtain ⟨ok, hok⟩ : ∃ ok, (behV G x).isSome = ok := ⟨_, rfl⟩
          have HBX := hid (show behV G x = if ok = true then some sy else none from by
            rw [← hsy, ← hok]
            cases behV G x <;> rfl)
          have hKB : ∀ w', Below w9.heap.size w9 w' → Calls Tryd.prog 12 #[.agg #[tv, ov, sv, .slice pa np pc, .int .i64 G.start], .agg #[.int .i64 x.1, .int .i64 x.2]] w' fun e w'' => e = .returned (.tuple #[.int .i64 sy, .bool ok]) ∧ Below w'.heap.size w' w'' := fun w' hC => by
            have h2 := Behind_any (HGr.out.below (HBx.out.trans (hC.mono HBx.out.size))) x
            unfold BehVP at h2
            rw [hsy, hok] at h2
            exact h2
          have KB := hid hKB
          have HS0 : Hid (∀ w', Below w9.heap.size w9 w' → w'.cell? ⟨lb, lo + (j + 1) * 2, none⟩ = some (.int .i64 x.1)) := hid fun w' hC => by simpa using HQ0.out w' (hb9.trans (hC.mono hb9.size))
          have HS1 : Hid (∀ w', Below w9.heap.size w9 w' → w'.cell? ⟨lb, lo + (j + 1) * 2 + 1, none⟩ = some (.int .i64 x.2)) := hid fun w' hC => by simpa using HQ1.out w' (hb9.trans (hC.mono hb9.size))
          have HC0 : Hid (∀ w', Below w9.heap.size w9 w' → w'.cell? ⟨w.heap.size, 0, none⟩ = some (tv)) := hid fun w' hC => cell_below hC (Lib.cell_of_heap HN9.out 0)
          have HC1 : Hid (∀ w', Below w9.heap.size w9 w' → w'.cell? ⟨w.heap.size, 1, none⟩ = some (ov)) := hid fun w' hC => cell_below hC (Lib.cell_of_heap HN9.out 1)
          have HC2 : Hid (∀ w', Below w9.heap.size w9 w' → w'.cell? ⟨w.heap.size, 2, none⟩ = some (sv)) := hid fun w' hC => cell_below hC (Lib.cell_of_heap HN9.out 2)
          have HC3 : Hid (∀ w', Below w9.heap.size w9 w' → w'.cell? ⟨w.heap.size, 3, none⟩ = some (.slice pa np pc)) := hid fun w' hC => cell_below hC (Lib.cell_of_heap HN9.out 3)
          have HC4 : Hid (∀ w', Below w9.heap.size w9 w' → w'.cell? ⟨w.heap.size, 4, none⟩ = some (.int .i64 G.start)) := hid fun w' hC => cell_below hC (Lib.cell_of_heap HN9.out 4)
          clear hb9 hKB hsy hok
          have HXM := hid (List.mem_of_getElem? hx)
          clear hx p0 p1
          go_wp2_with fail
          refine wp_region_below (by kernel_rfl) (by kernel_rfl) ?_
          with_reducible refine BigFrame.wpQuiet_want (by kernel_rfl) (fun K hK => ?_)
          apply Exists.intro
          refine ⟨fun w' hC => ?_, hK _ ?_⟩
          · have f0' := HS0.out w' hC
            have f1' := HS1.out w' hC
            have f2' := HC0.out w' hC
            have f3' := HC1.out w' hC
            have f4' := HC2.out w' hC
            have f5' := HC3.out w' hC
            have f6' := HC4.out w' hC
            unfold Oper.quietAt
            go_simp
            first | with_reducible rfl | done
          clear hK K
          try simp only [Act.put, List.setIfInBounds_toArray, List.set_cons_zero, List.set_cons_succ]
          with_reducible refine BigFrame.wpQuiet_want (by kernel_rfl) (fun K hK => ?_)
          apply Exists.intro
          refine ⟨fun w' hC => ?_, hK _ ?_⟩
          · unfold Oper.quietAt
            go_simp
            first | with_reducible rfl | done
          clear hK K
          try simp only [Act.put, List.setIfInBounds_toArray, List.set_cons_zero, List.set_cons_succ]
          with_reducible refine BigFrame.wpQuiet_want (by kernel_rfl) (fun K hK => ?_)
          apply Exists.intro
          refine ⟨fun w' hC => ?_, hK _ ?_⟩
          · unfold Oper.quietAt
            go_simp
            first | with_reducible rfl | done
          clear hK K
          try simp only [Act.put, List.setIfInBounds_toArray, List.set_cons_zero, List.set_cons_succ]
          with_reducible refine BigFrame.wpQuiet_want (by kernel_rfl) (fun K hK => ?_)
          apply Exists.intro
          refine ⟨fun w' hC => ?_, hK _ ?_⟩
          · unfold Oper.quietAt
            go_simp
            first | with_reducible rfl | done
          clear hK K
          try simp only [Act.put, List.setIfInBounds_toArray, List.set_cons_zero, List.set_cons_succ]
          with_reducible refine BigFrame.wpQuiet_want (by kernel_rfl) (fun K hK => ?_)
          apply Exists.intro
          refine ⟨fun w' hC => ?_, hK _ ?_⟩
          · have f0' := HS0.out w' hC
            have f1' := HS1.out w' hC
            have f2' := HC0.out w' hC
            have f3' := HC1.out w' hC
            have f4' := HC2.out w' hC
            have f5' := HC3.out w' hC
            have f6' := HC4.out w' hC
            unfold Oper.quietAt
            go_simp
            first | with_reducible rfl | done
          clear hK K
          try simp only [Act.put, List.setIfInBounds_toArray, List.set_cons_zero, List.set_cons_succ]
          with_reducible refine BigFrame.wpQuiet_want (by kernel_rfl) (fun K hK => ?_)
          apply Exists.intro
          refine ⟨fun w' hC => ?_, hK _ ?_⟩
          · unfold Oper.quietAt
            go_simp
            first
              | with_reducible exact below_call hC (Nat.le_refl _) (KB.out w' hC)
          clear hK K
          try simp only [Act.put, List.setIfInBounds_toArray, List.set_cons_zero, List.set_cons_succ]
          with_reducible refine BigFrame.wpQuiet_want (by kernel_rfl) (fun K hK => ?_)
          apply Exists.intro
          refine ⟨fun w' hC => ?_, hK _ ?_⟩
          · unfold Oper.quietAt
            go_simp
            first | with_reducible rfl | done
          clear hK K
          try simp only [Act.put, List.setIfInBounds_toArray, List.set_cons_zero, List.set_cons_succ]
          with_reducible refine BigFrame.wpQuiet_want (by kernel_rfl) (fun K hK => ?_)
          apply Exists.intro
          refine ⟨fun w' hC => ?_, hK _ ?_⟩
          · unfold Oper.quietAt
            go_simp
            first | with_reducible rfl | done
          clear hK K
          try simp only [Act.put, List.setIfInBounds_toArray, List.set_cons_zero, List.set_cons_succ]
          with_reducible refine BigFrame.wpQuiet_want (by kernel_rfl) (fun K hK => ?_)
          apply Exists.intro
          refine ⟨fun w' hC => ?_, hK _ ?_⟩
          · unfold Oper.quietAt
            go_simp
            first | with_reducible rfl | done
          clear hK K
          try simp only [Act.put, List.setIfInBounds_toArray, List.set_cons_zero, List.set_cons_succ]
          with_reducible refine BigFrame.wpQuiet_want (by kernel_rfl) (fun K hK => ?_)
          apply Exists.intro
          refine ⟨fun w' hC => ?_, hK _ ?_⟩
          · unfold Oper.quietAt
            go_simp
            first | with_reducible rfl | done
          clear hK K
          try simp only [Act.put, List.setIfInBounds_toArray, List.set_cons_zero, List.set_cons_succ]
          with_reducible refine BigFrame.wpQuiet_want (by kernel_rfl) (fun K hK => ?_)
          apply Exists.intro
          refine ⟨fun w' hC => ?_, hK _ ?_⟩
          · unfold Oper.quietAt
            go_simp
            first | with_reducible rfl | done
          clear hK K
          try simp only [Act.put, List.setIfInBounds_toArray, List.set_cons_zero, List.set_cons_succ]
          refine wpQuiet_nil ?_
          intro w10 hb10
          have HB10 := hid (HB9.out.trans (hb10.mono HB9.out.size))
          clear hb10
          go_wp2_with fail
          go_loopw [12, 13, 14] (fun t12 t13 t14 wz => ∃ p : Nat, p ≤ np ∧ t12 = .int .i64 (p : Int) ∧ Hid (Below w8.heap.size w8 wz)) (fun t12 _ _ _ => np - (RowKit.intOf t12).toNat)
          case atStart => exact ⟨0, Nat.zero_le _, rfl, HB10⟩
          case round =>
            obtain ⟨p, hp, rfl, HBp⟩ := hrel
            have HBpw := hid (HB8.out.trans (HBp.out.mono HB8.out.size))
            have HNp := hid ((HBp.out.block _ (Array.getElem?_eq_some_iff.1 HN8.out).1).trans HN8.out)
            have HCp := hid (HCV8.out.below HBp.out)
            have c3 : wr.cell? ⟨w.heap.size, 3, none⟩ = some (.slice pa np pc) := Lib.cell_of_heap HNp.out 3
            by_cases hpl : p < np
            · have s1 : (p : Int) < (np : Int) := by omega
              have s2 : (0 : Int) ≤ (p : Int) := by omega
              cases ok
              · go_wp2_with fail
                refine ⟨⟨(j + 1) + 1, by omega, rfl, HBp⟩, ?_⟩
                show m - ((((j + 1) : Nat) : Int) + 1).toNat < m - ((((j + 1) : Nat) : Int)).toNat
                omega
              by_cases hs0 : sy < 0
              case neg =>
                have hs1 : decide (sy < 0) = false := decide_eq_false hs0
                go_wp2_with fail
                refine ⟨⟨(j + 1) + 1, by omega, rfl, HBp⟩, ?_⟩
                show m - ((((j + 1) : Nat) : Int) + 1).toNat < m - ((((j + 1) : Nat) : Int)).toNat
                omega
              go_wp2_with fail
              go_loopw [13, 14] (fun t13 t14 wz => ∃ k : Nat, k ≤ m ∧ t14 = .int .i64 (k : Int) ∧ (∃ ib, t13 = .bool ib ∧ Hid (ib = decide (((p : Int), (0 : Int)) ∈ C.take k))) ∧ wz = wr) (fun _ t14 _ => m - (RowKit.intOf t14).toNat)
              case atStart => exact ⟨0, Nat.zero_le _, rfl, ⟨false, rfl, hid (by simp)⟩, rfl⟩
              case round =>
                obtain ⟨k, hkm, rfl, ⟨ib, rfl, HIB⟩, hww⟩ := hrel
                subst hww
                by_cases hkl : k < m
                · have u1 : (k : Int) < (m : Int) := by omega
                  have u2 : (0 : Int) ≤ (k : Int) := by omega
                  obtain ⟨z, hz⟩ : ∃ z, C[k]? = some z := ⟨_, List.getElem?_eq_getElem (by rw [HM.out]; exact hkl)⟩
                  obtain ⟨lb3, lo3, elo3, g0, g1⟩ := HCp.out.at_ hz
                  injection elo3 with elo3
                  injection elo3 with elb3 elo3
                  subst elb3
                  subst elo3
                  obtain ⟨be, hbe⟩ : ∃ be, (decide (z.1 = (p : Int)) && decide (z.2 = 0)) = be := ⟨_, rfl⟩
                  have hE : ∀ w', (Op.equalIn 10000 37 (.agg #[.int .i64 z.1, .int .i64 z.2]) (.agg #[.int .i64 (p : Int), .int .i64 0])).run Tryd.prog w' = .ok be w' := fun w' => by rw [← hbe]; exact eql37 _ _ _ _ w'
                  have HIB2 := hid (show (ib || be) = decide (((p : Int), (0 : Int)) ∈ C.take (k + 1)) from by
                    rw [List.take_add_one, hz, HIB.out, ← hbe]
                    have e := it_eq z ((p : Int), (0 : Int))
                    dsimp only at e
                    rw [e]
                    by_cases q1 : ((p : Int), (0 : Int)) ∈ C.take k
                    · simp [q1]
                    · by_cases q2 : z = ((p : Int), (0 : Int))
                      · simp [q1, q2]
                      · have q3 : ¬ ((p : Int), (0 : Int)) = z := fun e => q2 e.symm
                        simp [q1, q2, q3])
                  clear hbe hz
                  cases ib
                  · cases be
                    · go_wp2_with fail
                      refine ⟨⟨k + 1, by omega, rfl, ⟨false, rfl, hid (by simpa using HIB2.out)⟩, by first | trivial | rfl⟩, ?_⟩
                      show m - ((k : Int) + 1).toNat < m - ((k : Int)).toNat
                      omega
                    · go_wp2_with fail
                      refine ⟨⟨k + 1, by omega, rfl, ⟨true, rfl, hid (by simpa using HIB2.out)⟩, by first | trivial | rfl⟩, ?_⟩
                      show m - ((k : Int) + 1).toNat < m - ((k : Int)).toNat
                      omega
                  · go_wp2_with fail
                    refine ⟨⟨k + 1, by omega, rfl, ⟨true, rfl, hid (by simpa using HIB2.out)⟩, by first | trivial | rfl⟩, ?_⟩
                    show m - ((k : Int) + 1).toNat < m - ((k : Int)).toNat
                    omega
                · have u1 : ¬ (k : Int) < (m : Int) := by omega
                  have hke : k = m := by omega
                  have HIB3 := hid (show ib = decide (((p : Int), (0 : Int)) ∈ C) from by
                    have := HIB.out
                    rw [hke, ← HM.out, List.take_length] at this
                    exact this)
                  have hbb : behV G x = some sy := by rw [HBX.out]; first | rfl | simp
                  have hval := HIN.out x HXM.out
                  have hbx2 : behX G x = some sy := by
                    unfold behV at hbb
                    rw [if_pos hval] at hbb
                    exact hbb
                  have hsr := beh_sort hval hbx2 hs0
                  have hs60 := (valid_parts hval).2.1
                  obtain ⟨t, hst⟩ : ∃ t : Nat, -1 - sy = (t : Int) := ⟨(-1 - sy).toNat, by omega⟩
                  have ht60 : t < 60 := by omega
                  obtain ⟨pb, po, rfl, hpq⟩ := HPC.out (by rw [HNP.out]; omega)
                  have hq := (hpq p (by rw [HNP.out]; exact hpl)).2.1
                  obtain ⟨sp, hsp⟩ : ∃ sp, (G.prods.getD p default).sort = sp := ⟨_, rfl⟩
                  rw [hsp] at hq
                  have hq := cell_below HBpw.out hq
                  clear hke hbb hval hbx2 hsr hs60 hpq
                  by_cases hse : sp = (t : Int)
                  · obtain rfl : true = ib := by
                      rw [HIB3.out]
                      refine (decide_eq_true (HST.out x sy p HXM.out ?_ hs0 (by rw [HNP.out]; exact hpl) ?_)).symm
                      · rw [HBX.out]; first | rfl | simp
                      · show (G.prods.getD p default).sort = _
                        rw [hsp, hse, hst]
                    subst hse
                    clear hsp
                    go_wp2_with fail
                    first | refine ⟨⟨p + 1, by omega, rfl, HBp⟩, ?_⟩ | refine ⟨⟨p + 1, by omega, by omega⟩, ?_⟩
                    show np - ((p : Int) + 1).toNat < np - ((p : Int)).toNat
                    omega
                  · have hse2 : (sp == (t : Int)) = false := by rw [beq_eq_false_iff_ne]; exact hse
                    clear hsp
                    go_wp2_with fail
                    first | refine ⟨⟨p + 1, by omega, rfl, HBp⟩, ?_⟩ | refine ⟨⟨p + 1, by omega, by omega⟩, ?_⟩
                    show np - ((p : Int) + 1).toNat < np - ((p : Int)).toNat
                    omega
            · have s1 : ¬ (p : Int) < (np : Int) := by omega
              go_wp2_with fail
              refine ⟨⟨(j + 1) + 1, by omega, rfl, HBp⟩, ?_⟩
              show m - ((((j + 1) : Nat) : Int) + 1).toNat < m - ((((j + 1) : Nat) : Int)).toNat
              omega
        · have hl1 : y.1 = x.1 := by unfold X14.Less at hless; omega
          have hl2 : y.2 < x.2 := by unfold X14.Less at hless; omega
          have k1 : decide (x.1 < x.1) = false := decide_eq_false (by omega)
          have k3 : decide (x.2 ≤ y.2) = false := decide_eq_false (by omega)
          rw [hl1] at HR0
          clear hless hl1 hl
          go_wp2_with fail
          refine wp_region_below (by kernel_rfl) (by kernel_rfl) ?_
          with_reducible refine BigFrame.wpQuiet_want (by kernel_rfl) (fun K hK => ?_)
          apply Exists.intro
          refine ⟨fun w' hC => ?_, hK _ ?_⟩
          · unfold Oper.quietAt
            go_simp
            first | with_reducible rfl | done
          clear hK K
          try simp only [Act.put, List.setIfInBounds_toArray, List.set_cons_zero, List.set_cons_succ]
          with_reducible refine BigFrame.wpQuiet_want (by kernel_rfl) (fun K hK => ?_)
          apply Exists.intro
          refine ⟨fun w' hC => ?_, hK _ ?_⟩
          · unfold Oper.quietAt
            go_simp
            first | with_reducible rfl | done
          clear hK K
          try simp only [Act.put, List.setIfInBounds_toArray, List.set_cons_zero, List.set_cons_succ]
          with_reducible refine BigFrame.wpQuiet_want (by kernel_rfl) (fun K hK => ?_)
          apply Exists.intro
          refine ⟨fun w' hC => ?_, hK _ ?_⟩
          · unfold Oper.quietAt
            go_simp
            first | with_reducible rfl | done
          clear hK K
          try simp only [Act.put, List.setIfInBounds_toArray, List.set_cons_zero, List.set_cons_succ]
          with_reducible refine BigFrame.wpQuiet_want (by kernel_rfl) (fun K hK => ?_)
          apply Exists.intro
          refine ⟨fun w' hC => ?_, hK _ ?_⟩
          · unfold Oper.quietAt
            go_simp
            first | with_reducible rfl | done
          clear hK K
          try simp only [Act.put, List.setIfInBounds_toArray, List.set_cons_zero, List.set_cons_succ]
          with_reducible refine BigFrame.wpQuiet_want (by kernel_rfl) (fun K hK => ?_)
          apply Exists.intro
          refine ⟨fun w' hC => ?_, hK _ ?_⟩
          · unfold Oper.quietAt
            go_simp
            first | with_reducible rfl | done
          clear hK K
          try simp only [Act.put, List.setIfInBounds_toArray, List.set_cons_zero, List.set_cons_succ]
          with_reducible refine BigFrame.wpQuiet_want (by kernel_rfl) (fun K hK => ?_)
          apply Exists.intro
          refine ⟨fun w' hC => ?_, hK _ ?_⟩
          · unfold Oper.quietAt
            go_simp
            first | with_reducible rfl | done
          clear hK K
          try simp only [Act.put, List.setIfInBounds_toArray, List.set_cons_zero, List.set_cons_succ]
          with_reducible refine BigFrame.wpQuiet_want (by kernel_rfl) (fun K hK => ?_)
          apply Exists.intro
          refine ⟨fun w' hC => ?_, hK _ ?_⟩
          · unfold Oper.quietAt
            go_simp
            first | with_reducible rfl | done
          clear hK K
          try simp only [Act.put, List.setIfInBounds_toArray, List.set_cons_zero, List.set_cons_succ]
          with_reducible refine BigFrame.wpQuiet_want (by kernel_rfl) (fun K hK => ?_)
          apply Exists.intro
          refine ⟨fun w' hC => ?_, hK _ ?_⟩
          · unfold Oper.quietAt
            go_simp
            first | with_reducible rfl | done
          clear hK K
          try simp only [Act.put, List.setIfInBounds_toArray, List.set_cons_zero, List.set_cons_succ]
          with_reducible refine BigFrame.wpQuiet_want (by kernel_rfl) (fun K hK => ?_)
          apply Exists.intro
          refine ⟨fun w' hC => ?_, hK _ ?_⟩
          · have f0' := HQ0.out w' hC
            have f1' := HQ1.out w' hC
            have f2' := HR0.out w' hC
            have f3' := HR1.out w' hC
            unfold Oper.quietAt
            go_simp
            first | with_reducible rfl | done
          clear hK K
          try simp only [Act.put, List.setIfInBounds_toArray, List.set_cons_zero, List.set_cons_succ]
          with_reducible refine BigFrame.wpQuiet_want (by kernel_rfl) (fun K hK => ?_)
          apply Exists.intro
          refine ⟨fun w' hC => ?_, hK _ ?_⟩
          · unfold Oper.quietAt
            go_simp
            first | with_reducible rfl | done
          clear hK K
          try simp only [Act.put, List.setIfInBounds_toArray, List.set_cons_zero, List.set_cons_succ]
          with_reducible refine BigFrame.wpQuiet_want (by kernel_rfl) (fun K hK => ?_)
          apply Exists.intro
          refine ⟨fun w' hC => ?_, hK _ ?_⟩
          · unfold Oper.quietAt
            go_simp
            first | with_reducible rfl | done
          clear hK K
          try simp only [Act.put, List.setIfInBounds_toArray, List.set_cons_zero, List.set_cons_succ]
          with_reducible refine BigFrame.wpQuiet_want (by kernel_rfl) (fun K hK => ?_)
          apply Exists.intro
          refine ⟨fun w' hC => ?_, hK _ ?_⟩
          · unfold Oper.quietAt
            go_simp
            first | with_reducible rfl | done
          clear hK K
          try simp only [Act.put, List.setIfInBounds_toArray, List.set_cons_zero, List.set_cons_succ]
          with_reducible refine BigFrame.wpQuiet_want (by kernel_rfl) (fun K hK => ?_)
          apply Exists.intro
          refine ⟨fun w' hC => ?_, hK _ ?_⟩
          · unfold Oper.quietAt
            go_simp
            first | with_reducible rfl | done
          clear hK K
          try simp only [Act.put, List.setIfInBounds_toArray, List.set_cons_zero, List.set_cons_succ]
          with_reducible refine BigFrame.wpQuiet_want (by kernel_rfl) (fun K hK => ?_)
          apply Exists.intro
          refine ⟨fun w' hC => ?_, hK _ ?_⟩
          · have f0' := HQ0.out w' hC
            have f1' := HQ1.out w' hC
            have f2' := HR0.out w' hC
            have f3' := HR1.out w' hC
            unfold Oper.quietAt
            go_simp
            first | with_reducible rfl | done
          clear hK K
          try simp only [Act.put, List.setIfInBounds_toArray, List.set_cons_zero, List.set_cons_succ]
          with_reducible refine BigFrame.wpQuiet_want (by kernel_rfl) (fun K hK => ?_)
          apply Exists.intro
          refine ⟨fun w' hC => ?_, hK _ ?_⟩
          · unfold Oper.quietAt
            go_simp
            first | with_reducible rfl | done
          clear hK K
          try simp only [Act.put, List.setIfInBounds_toArray, List.set_cons_zero, List.set_cons_succ]
          with_reducible refine BigFrame.wpQuiet_want (by kernel_rfl) (fun K hK => ?_)
          apply Exists.intro
          refine ⟨fun w' hC => ?_, hK _ ?_⟩
          · unfold Oper.quietAt
            go_simp
            first | with_reducible rfl | done
          clear hK K
          try simp only [Act.put, List.setIfInBounds_toArray, List.set_cons_zero, List.set_cons_succ]
          with_reducible refine BigFrame.wpQuiet_want (by kernel_rfl) (fun K hK => ?_)
          apply Exists.intro
          refine ⟨fun w' hC => ?_, hK _ ?_⟩
          · unfold Oper.quietAt
            go_simp
            first | with_reducible rfl | done
          clear hK K
          try simp only [Act.put, List.setIfInBounds_toArray, List.set_cons_zero, List.set_cons_succ]
          with_reducible refine BigFrame.wpQuiet_want (by kernel_rfl) (fun K hK => ?_)
          apply Exists.intro
          refine ⟨fun w' hC => ?_, hK _ ?_⟩
          · unfold Oper.quietAt
            go_simp
            first | with_reducible rfl | done
          clear hK K
          try simp only [Act.put, List.setIfInBounds_toArray, List.set_cons_zero, List.set_cons_succ]
          with_reducible refine BigFrame.wpQuiet_want (by kernel_rfl) (fun K hK => ?_)
          apply Exists.intro
          refine ⟨fun w' hC => ?_, hK _ ?_⟩
          · unfold Oper.quietAt
            go_simp
            first | with_reducible rfl | done
          clear hK K
          try simp only [Act.put, List.setIfInBounds_toArray, List.set_cons_zero, List.set_cons_succ]
          with_reducible refine BigFrame.wpQuiet_want (by kernel_rfl) (fun K hK => ?_)
          apply Exists.intro
          refine ⟨fun w' hC => ?_, hK _ ?_⟩
          · unfold Oper.quietAt
            go_simp
            first | with_reducible rfl | done
          clear hK K
          try simp only [Act.put, List.setIfInBounds_toArray, List.set_cons_zero, List.set_cons_succ]
          with_reducible refine BigFrame.wpQuiet_want (by kernel_rfl) (fun K hK => ?_)
          apply Exists.intro
          refine ⟨fun w' hC => ?_, hK _ ?_⟩
          · unfold Oper.quietAt
            go_simp
            first | with_reducible rfl | done
          clear hK K
          try simp only [Act.put, List.setIfInBounds_toArray, List.set_cons_zero, List.set_cons_succ]
          with_reducible refine BigFrame.wpQuiet_want (by kernel_rfl) (fun K hK => ?_)
          apply Exists.intro
          refine ⟨fun w' hC => ?_, hK _ ?_⟩
          · have f0' := HQ0.out w' hC
            have f1' := HQ1.out w' hC
            have f2' := HR0.out w' hC
            have f3' := HR1.out w' hC
            unfold Oper.quietAt
            go_simp
            first | with_reducible rfl | done
          clear hK K
          try simp only [Act.put, List.setIfInBounds_toArray, List.set_cons_zero, List.set_cons_succ]
          with_reducible refine BigFrame.wpQuiet_want (by kernel_rfl) (fun K hK => ?_)
          apply Exists.intro
          refine ⟨fun w' hC => ?_, hK _ ?_⟩
          · unfold Oper.quietAt
            go_simp
            first | with_reducible rfl | done
          clear hK K
          try simp only [Act.put, List.setIfInBounds_toArray, List.set_cons_zero, List.set_cons_succ]
          with_reducible refine BigFrame.wpQuiet_want (by kernel_rfl) (fun K hK => ?_)
          apply Exists.intro
          refine ⟨fun w' hC => ?_, hK _ ?_⟩
          · unfold Oper.quietAt
            go_simp
            first | with_reducible rfl | done
          clear hK K
          try simp only [Act.put, List.setIfInBounds_toArray, List.set_cons_zero, List.set_cons_succ]
          with_reducible refine BigFrame.wpQuiet_want (by kernel_rfl) (fun K hK => ?_)
          apply Exists.intro
          refine ⟨fun w' hC => ?_, hK _ ?_⟩
          · unfold Oper.quietAt
            go_simp
            first | with_reducible rfl | done
          clear hK K
          try simp only [Act.put, List.setIfInBounds_toArray, List.set_cons_zero, List.set_cons_succ]
          with_reducible refine BigFrame.wpQuiet_want (by kernel_rfl) (fun K hK => ?_)
          apply Exists.intro
          refine ⟨fun w' hC => ?_, hK _ ?_⟩
          · unfold Oper.quietAt
            go_simp
            first | with_reducible rfl | done
          clear hK K
          try simp only [Act.put, List.setIfInBounds_toArray, List.set_cons_zero, List.set_cons_succ]
          with_reducible refine BigFrame.wpQuiet_want (by kernel_rfl) (fun K hK => ?_)
          apply Exists.intro
          refine ⟨fun w' hC => ?_, hK _ ?_⟩
          · have f0' := HQ0.out w' hC
            have f1' := HQ1.out w' hC
            have f2' := HR0.out w' hC
            have f3' := HR1.out w' hC
            unfold Oper.quietAt
            go_simp
            first | with_reducible rfl | done
          clear hK K
          try simp only [Act.put, List.setIfInBounds_toArray, List.set_cons_zero, List.set_cons_succ]
          with_reducible refine BigFrame.wpQuiet_want (by kernel_rfl) (fun K hK => ?_)
          apply Exists.intro
          refine ⟨fun w' hC => ?_, hK _ ?_⟩
          · unfold Oper.quietAt
            go_simp
            first | with_reducible rfl | done
          clear hK K
          try simp only [Act.put, List.setIfInBounds_toArray, List.set_cons_zero, List.set_cons_succ]
          with_reducible refine BigFrame.wpQuiet_want (by kernel_rfl) (fun K hK => ?_)
          apply Exists.intro
          refine ⟨fun w' hC => ?_, hK _ ?_⟩
          · unfold Oper.quietAt
            go_simp
            first | with_reducible rfl | done
          clear hK K
          try simp only [Act.put, List.setIfInBounds_toArray, List.set_cons_zero, List.set_cons_succ]
          with_reducible refine BigFrame.wpQuiet_want (by kernel_rfl) (fun K hK => ?_)
          apply Exists.intro
          refine ⟨fun w' hC => ?_, hK _ ?_⟩
          · unfold Oper.quietAt
            go_simp
            first | with_reducible rfl | done
          clear hK K
          try simp only [Act.put, List.setIfInBounds_toArray, List.set_cons_zero, List.set_cons_succ]
          with_reducible refine BigFrame.wpQuiet_want (by kernel_rfl) (fun K hK => ?_)
          apply Exists.intro
          refine ⟨fun w' hC => ?_, hK _ ?_⟩
          · unfold Oper.quietAt
            go_simp
            first | with_reducible rfl | done
          clear hK K
          try simp only [Act.put, List.setIfInBounds_toArray, List.set_cons_zero, List.set_cons_succ]
          with_reducible refine BigFrame.wpQuiet_want (by kernel_rfl) (fun K hK => ?_)
          apply Exists.intro
          refine ⟨fun w' hC => ?_, hK _ ?_⟩
          · unfold Oper.quietAt
            go_simp
            first | with_reducible rfl | done
          clear hK K
          try simp only [Act.put, List.setIfInBounds_toArray, List.set_cons_zero, List.set_cons_succ]
          with_reducible refine BigFrame.wpQuiet_want (by kernel_rfl) (fun K hK => ?_)
          apply Exists.intro
          refine ⟨fun w' hC => ?_, hK _ ?_⟩
          · unfold Oper.quietAt
            go_simp
            first | with_reducible rfl | done
          clear hK K
          try simp only [Act.put, List.setIfInBounds_toArray, List.set_cons_zero, List.set_cons_succ]
          with_reducible refine BigFrame.wpQuiet_want (by kernel_rfl) (fun K hK => ?_)
          apply Exists.intro
          refine ⟨fun w' hC => ?_, hK _ ?_⟩
          · unfold Oper.quietAt
            go_simp
            first | with_reducible rfl | done
          clear hK K
          try simp only [Act.put, List.setIfInBounds_toArray, List.set_cons_zero, List.set_cons_succ]
          with_reducible refine BigFrame.wpQuiet_want (by kernel_rfl) (fun K hK => ?_)
          apply Exists.intro
          refine ⟨fun w' hC => ?_, hK _ ?_⟩
          · have f0' := HQ0.out w' hC
            have f1' := HQ1.out w' hC
            have f2' := HR0.out w' hC
            have f3' := HR1.out w' hC
            unfold Oper.quietAt
            go_simp
            first | with_reducible rfl | done
          clear hK K
          try simp only [Act.put, List.setIfInBounds_toArray, List.set_cons_zero, List.set_cons_succ]
          with_reducible refine BigFrame.wpQuiet_want (by kernel_rfl) (fun K hK => ?_)
          apply Exists.intro
          refine ⟨fun w' hC => ?_, hK _ ?_⟩
          · unfold Oper.quietAt
            go_simp
            first | with_reducible rfl | done
          clear hK K
          try simp only [Act.put, List.setIfInBounds_toArray, List.set_cons_zero, List.set_cons_succ]
          with_reducible refine BigFrame.wpQuiet_want (by kernel_rfl) (fun K hK => ?_)
          apply Exists.intro
          refine ⟨fun w' hC => ?_, hK _ ?_⟩
          · unfold Oper.quietAt
            go_simp
            first | with_reducible rfl | done
          clear hK K
          try simp only [Act.put, List.setIfInBounds_toArray, List.set_cons_zero, List.set_cons_succ]
          with_reducible refine BigFrame.wpQuiet_want (by kernel_rfl) (fun K hK => ?_)
          apply Exists.intro
          refine ⟨fun w' hC => ?_, hK _ ?_⟩
          · unfold Oper.quietAt
            go_simp
            first | with_reducible rfl | done
          clear hK K
          try simp only [Act.put, List.setIfInBounds_toArray, List.set_cons_zero, List.set_cons_succ]
          with_reducible refine BigFrame.wpQuiet_want (by kernel_rfl) (fun K hK => ?_)
          apply Exists.intro
          refine ⟨fun w' hC => ?_, hK _ ?_⟩
          · unfold Oper.quietAt
            go_simp
            first | with_reducible rfl | done
          clear hK K
          try simp only [Act.put, List.setIfInBounds_toArray, List.set_cons_zero, List.set_cons_succ]
          with_reducible refine BigFrame.wpQuiet_want (by kernel_rfl) (fun K hK => ?_)
          apply Exists.intro
          refine ⟨fun w' hC => ?_, hK _ ?_⟩
          · have f0' := HQ0.out w' hC
            have f1' := HQ1.out w' hC
            have f2' := HR0.out w' hC
            have f3' := HR1.out w' hC
            unfold Oper.quietAt
            go_simp
            first | with_reducible rfl | done
          clear hK K
          try simp only [Act.put, List.setIfInBounds_toArray, List.set_cons_zero, List.set_cons_succ]
          with_reducible refine BigFrame.wpQuiet_want (by kernel_rfl) (fun K hK => ?_)
          apply Exists.intro
          refine ⟨fun w' hC => ?_, hK _ ?_⟩
          · unfold Oper.quietAt
            go_simp
            first | with_reducible rfl | done
          clear hK K
          try simp only [Act.put, List.setIfInBounds_toArray, List.set_cons_zero, List.set_cons_succ]
          with_reducible refine BigFrame.wpQuiet_want (by kernel_rfl) (fun K hK => ?_)
          apply Exists.intro
          refine ⟨fun w' hC => ?_, hK _ ?_⟩
          · unfold Oper.quietAt
            go_simp
            first | with_reducible rfl | done
          clear hK K
          try simp only [Act.put, List.setIfInBounds_toArray, List.set_cons_zero, List.set_cons_succ]
          with_reducible refine BigFrame.wpQuiet_want (by kernel_rfl) (fun K hK => ?_)
          apply Exists.intro
          refine ⟨fun w' hC => ?_, hK _ ?_⟩
          · unfold Oper.quietAt
            go_simp
            first | with_reducible rfl | done
          clear hK K
          try simp only [Act.put, List.setIfInBounds_toArray, List.set_cons_zero, List.set_cons_succ]
          with_reducible refine BigFrame.wpQuiet_want (by kernel_rfl) (fun K hK => ?_)
          apply Exists.intro
          refine ⟨fun w' hC => ?_, hK _ ?_⟩
          · unfold Oper.quietAt
            go_simp
            first | with_reducible rfl | done
          clear hK K
          try simp only [Act.put, List.setIfInBounds_toArray, List.set_cons_zero, List.set_cons_succ]
          refine wpQuiet_nil ?_
          intro w9 hb9
          have HB9 := hid (HB.out.trans (hb9.mono HB.out.size))
          have HBx := hid (HB8.out.trans (HB9.out.mono HB8.out.size))
          have HN9 := hid ((hb9.block _ (Array.getElem?_eq_some_iff.1 HNw.out).1).trans HNw.out)
          have HC9 := hid (HCV8.out.below HB9.out)
          obtain ⟨sy, hsy⟩ : ∃ sy, (behV G x).getD 0 = sy := ⟨_, rfl⟩
          obtain ⟨ok, hok⟩ : ∃ ok, (behV G x).isSome = ok := ⟨_, rfl⟩
          have HBX := hid (show behV G x = if ok = true then some sy else none from by
            rw [← hsy, ← hok]
            cases behV G x <;> rfl)
          have hKB : ∀ w', Below w9.heap.size w9 w' → Calls Tryd.prog 12 #[.agg #[tv, ov, sv, .slice pa np pc, .int .i64 G.start], .agg #[.int .i64 x.1, .int .i64 x.2]] w' fun e w'' => e = .returned (.tuple #[.int .i64 sy, .bool ok]) ∧ Below w'.heap.size w' w'' := fun w' hC => by
            have h2 := Behind_any (HGr.out.below (HBx.out.trans (hC.mono HBx.out.size))) x
            unfold BehVP at h2
            rw [hsy, hok] at h2
            exact h2
          have KB := hid hKB
          have HS0 : Hid (∀ w', Below w9.heap.size w9 w' → w'.cell? ⟨lb, lo + (j + 1) * 2, none⟩ = some (.int .i64 x.1)) := hid fun w' hC => by simpa using HQ0.out w' (hb9.trans (hC.mono hb9.size))
          have HS1 : Hid (∀ w', Below w9.heap.size w9 w' → w'.cell? ⟨lb, lo + (j + 1) * 2 + 1, none⟩ = some (.int .i64 x.2)) := hid fun w' hC => by simpa using HQ1.out w' (hb9.trans (hC.mono hb9.size))
          have HC0 : Hid (∀ w', Below w9.heap.size w9 w' → w'.cell? ⟨w.heap.size, 0, none⟩ = some (tv)) := hid fun w' hC => cell_below hC (Lib.cell_of_heap HN9.out 0)
          have HC1 : Hid (∀ w', Below w9.heap.size w9 w' → w'.cell? ⟨w.heap.size, 1, none⟩ = some (ov)) := hid fun w' hC => cell_below hC (Lib.cell_of_heap HN9.out 1)
          have HC2 : Hid (∀ w', Below w9.heap.size w9 w' → w'.cell? ⟨w.heap.size, 2, none⟩ = some (sv)) := hid fun w' hC => cell_below hC (Lib.cell_of_heap HN9.out 2)
          have HC3 : Hid (∀ w', Below w9.heap.size w9 w' → w'.cell? ⟨w.heap.size, 3, none⟩ = some (.slice pa np pc)) := hid fun w' hC => cell_below hC (Lib.cell_of_heap HN9.out 3)
          have HC4 : Hid (∀ w', Below w9.heap.size w9 w' → w'.cell? ⟨w.heap.size, 4, none⟩ = some (.int .i64 G.start)) := hid fun w' hC => cell_below hC (Lib.cell_of_heap HN9.out 4)
          clear hb9 hKB hsy hok
          have HXM := hid (List.mem_of_getElem? hx)
          clear hx p0 p1
          go_wp2_with fail
          refine wp_region_below (by kernel_rfl) (by kernel_rfl) ?_
          with_reducible refine BigFrame.wpQuiet_want (by kernel_rfl) (fun K hK => ?_)
          apply Exists.intro
          refine ⟨fun w' hC => ?_, hK _ ?_⟩
          · have f0' := HS0.out w' hC
            have f1' := HS1.out w' hC
            have f2' := HC0.out w' hC
            have f3' := HC1.out w' hC
            have f4' := HC2.out w' hC
            have f5' := HC3.out w' hC
            have f6' := HC4.out w' hC
            unfold Oper.quietAt
            go_simp
            first | with_reducible rfl | done
          clear hK K
          try simp only [Act.put, List.setIfInBounds_toArray, List.set_cons_zero, List.set_cons_succ]
          with_reducible refine BigFrame.wpQuiet_want (by kernel_rfl) (fun K hK => ?_)
          apply Exists.intro
          refine ⟨fun w' hC => ?_, hK _ ?_⟩
          · unfold Oper.quietAt
            go_simp
            first | with_reducible rfl | done
          clear hK K
          try simp only [Act.put, List.setIfInBounds_toArray, List.set_cons_zero, List.set_cons_succ]
          with_reducible refine BigFrame.wpQuiet_want (by kernel_rfl) (fun K hK => ?_)
          apply Exists.intro
          refine ⟨fun w' hC => ?_, hK _ ?_⟩
          · unfold Oper.quietAt
            go_simp
            first | with_reducible rfl | done
          clear hK K
          try simp only [Act.put, List.setIfInBounds_toArray, List.set_cons_zero, List.set_cons_succ]
          with_reducible refine BigFrame.wpQuiet_want (by kernel_rfl) (fun K hK => ?_)
          apply Exists.intro
          refine ⟨fun w' hC => ?_, hK _ ?_⟩
          · unfold Oper.quietAt
            go_simp
            first | with_reducible rfl | done
          clear hK K
          try simp only [Act.put, List.setIfInBounds_toArray, List.set_cons_zero, List.set_cons_succ]
          with_reducible refine BigFrame.wpQuiet_want (by kernel_rfl) (fun K hK => ?_)
          apply Exists.intro
          refine ⟨fun w' hC => ?_, hK _ ?_⟩
          · have f0' := HS0.out w' hC
            have f1' := HS1.out w' hC
            have f2' := HC0.out w' hC
            have f3' := HC1.out w' hC
            have f4' := HC2.out w' hC
            have f5' := HC3.out w' hC
            have f6' := HC4.out w' hC
            unfold Oper.quietAt
            go_simp
            first | with_reducible rfl | done
          clear hK K
          try simp only [Act.put, List.setIfInBounds_toArray, List.set_cons_zero, List.set_cons_succ]
          with_reducible refine BigFrame.wpQuiet_want (by kernel_rfl) (fun K hK => ?_)
          apply Exists.intro
          refine ⟨fun w' hC => ?_, hK _ ?_⟩
          · unfold Oper.quietAt
            go_simp
            first
              | with_reducible exact below_call hC (Nat.le_refl _) (KB.out w' hC)
          clear hK K
          try simp only [Act.put, List.setIfInBounds_toArray, List.set_cons_zero, List.set_cons_succ]
          with_reducible refine BigFrame.wpQuiet_want (by kernel_rfl) (fun K hK => ?_)
          apply Exists.intro
          refine ⟨fun w' hC => ?_, hK _ ?_⟩
          · unfold Oper.quietAt
            go_simp
            first | with_reducible rfl | done
          clear hK K
          try simp only [Act.put, List.setIfInBounds_toArray, List.set_cons_zero, List.set_cons_succ]
          with_reducible refine BigFrame.wpQuiet_want (by kernel_rfl) (fun K hK => ?_)
          apply Exists.intro
          refine ⟨fun w' hC => ?_, hK _ ?_⟩
          · unfold Oper.quietAt
            go_simp
            first | with_reducible rfl | done
          clear hK K
          try simp only [Act.put, List.setIfInBounds_toArray, List.set_cons_zero, List.set_cons_succ]
          with_reducible refine BigFrame.wpQuiet_want (by kernel_rfl) (fun K hK => ?_)
          apply Exists.intro
          refine ⟨fun w' hC => ?_, hK _ ?_⟩
          · unfold Oper.quietAt
            go_simp
            first | with_reducible rfl | done
          clear hK K
          try simp only [Act.put, List.setIfInBounds_toArray, List.set_cons_zero, List.set_cons_succ]
          with_reducible refine BigFrame.wpQuiet_want (by kernel_rfl) (fun K hK => ?_)
          apply Exists.intro
          refine ⟨fun w' hC => ?_, hK _ ?_⟩
          · unfold Oper.quietAt
            go_simp
            first | with_reducible rfl | done
          clear hK K
          try simp only [Act.put, List.setIfInBounds_toArray, List.set_cons_zero, List.set_cons_succ]
          with_reducible refine BigFrame.wpQuiet_want (by kernel_rfl) (fun K hK => ?_)
          apply Exists.intro
          refine ⟨fun w' hC => ?_, hK _ ?_⟩
          · unfold Oper.quietAt
            go_simp
            first | with_reducible rfl | done
          clear hK K
          try simp only [Act.put, List.setIfInBounds_toArray, List.set_cons_zero, List.set_cons_succ]
          refine wpQuiet_nil ?_
          intro w10 hb10
          have HB10 := hid (HB9.out.trans (hb10.mono HB9.out.size))
          clear hb10
          go_wp2_with fail
          go_loopw [12, 13, 14] (fun t12 t13 t14 wz => ∃ p : Nat, p ≤ np ∧ t12 = .int .i64 (p : Int) ∧ Hid (Below w8.heap.size w8 wz)) (fun t12 _ _ _ => np - (RowKit.intOf t12).toNat)
          case atStart => exact ⟨0, Nat.zero_le _, rfl, HB10⟩
          case round =>
            obtain ⟨p, hp, rfl, HBp⟩ := hrel
            have HBpw := hid (HB8.out.trans (HBp.out.mono HB8.out.size))
            have HNp := hid ((HBp.out.block _ (Array.getElem?_eq_some_iff.1 HN8.out).1).trans HN8.out)
            have HCp := hid (HCV8.out.below HBp.out)
            have c3 : wr.cell? ⟨w.heap.size, 3, none⟩ = some (.slice pa np pc) := Lib.cell_of_heap HNp.out 3
            by_cases hpl : p < np
            · have s1 : (p : Int) < (np : Int) := by omega
              have s2 : (0 : Int) ≤ (p : Int) := by omega
              cases ok
              · go_wp2_with fail
                refine ⟨⟨(j + 1) + 1, by omega, rfl, HBp⟩, ?_⟩
                show m - ((((j + 1) : Nat) : Int) + 1).toNat < m - ((((j + 1) : Nat) : Int)).toNat
                omega
              by_cases hs0 : sy < 0
              case neg =>
                have hs1 : decide (sy < 0) = false := decide_eq_false hs0
                go_wp2_with fail
                refine ⟨⟨(j + 1) + 1, by omega, rfl, HBp⟩, ?_⟩
                show m - ((((j + 1) : Nat) : Int) + 1).toNat < m - ((((j + 1) : Nat) : Int)).toNat
                omega
              go_wp2_with fail
              go_loopw [13, 14] (fun t13 t14 wz => ∃ k : Nat, k ≤ m ∧ t14 = .int .i64 (k : Int) ∧ (∃ ib, t13 = .bool ib ∧ Hid (ib = decide (((p : Int), (0 : Int)) ∈ C.take k))) ∧ wz = wr) (fun _ t14 _ => m - (RowKit.intOf t14).toNat)
              case atStart => exact ⟨0, Nat.zero_le _, rfl, ⟨false, rfl, hid (by simp)⟩, rfl⟩
              case round =>
                obtain ⟨k, hkm, rfl, ⟨ib, rfl, HIB⟩, hww⟩ := hrel
                subst hww
                by_cases hkl : k < m
                · have u1 : (k : Int) < (m : Int) := by omega
                  have u2 : (0 : Int) ≤ (k : Int) := by omega
                  obtain ⟨z, hz⟩ : ∃ z, C[k]? = some z := ⟨_, List.getElem?_eq_getElem (by rw [HM.out]; exact hkl)⟩
                  obtain ⟨lb3, lo3, elo3, g0, g1⟩ := HCp.out.at_ hz
                  injection elo3 with elo3
                  injection elo3 with elb3 elo3
                  subst elb3
                  subst elo3
                  obtain ⟨be, hbe⟩ : ∃ be, (decide (z.1 = (p : Int)) && decide (z.2 = 0)) = be := ⟨_, rfl⟩
                  have hE : ∀ w', (Op.equalIn 10000 37 (.agg #[.int .i64 z.1, .int .i64 z.2]) (.agg #[.int .i64 (p : Int), .int .i64 0])).run Tryd.prog w' = .ok be w' := fun w' => by rw [← hbe]; exact eql37 _ _ _ _ w'
                  have HIB2 := hid (show (ib || be) = decide (((p : Int), (0 : Int)) ∈ C.take (k + 1)) from by
                    rw [List.take_add_one, hz, HIB.out, ← hbe]
                    have e := it_eq z ((p : Int), (0 : Int))
                    dsimp only at e
                    rw [e]
                    by_cases q1 : ((p : Int), (0 : Int)) ∈ C.take k
                    · simp [q1]
                    · by_cases q2 : z = ((p : Int), (0 : Int))
                      · simp [q1, q2]
                      · have q3 : ¬ ((p : Int), (0 : Int)) = z := fun e => q2 e.symm
                        simp [q1, q2, q3])
                  clear hbe hz
                  cases ib
                  · cases be
                    · go_wp2_with fail
                      refine ⟨⟨k + 1, by omega, rfl, ⟨false, rfl, hid (by simpa using HIB2.out)⟩, by first | trivial | rfl⟩, ?_⟩
                      show m - ((k : Int) + 1).toNat < m - ((k : Int)).toNat
                      omega
                    · go_wp2_with fail
                      refine ⟨⟨k + 1, by omega, rfl, ⟨true, rfl, hid (by simpa using HIB2.out)⟩, by first | trivial | rfl⟩, ?_⟩
                      show m - ((k : Int) + 1).toNat < m - ((k : Int)).toNat
                      omega
                  · go_wp2_with fail
                    refine ⟨⟨k + 1, by omega, rfl, ⟨true, rfl, hid (by simpa using HIB2.out)⟩, by first | trivial | rfl⟩, ?_⟩
                    show m - ((k : Int) + 1).toNat < m - ((k : Int)).toNat
                    omega
                · have u1 : ¬ (k : Int) < (m : Int) := by omega
                  have hke : k = m := by omega
                  have HIB3 := hid (show ib = decide (((p : Int), (0 : Int)) ∈ C) from by
                    have := HIB.out
                    rw [hke, ← HM.out, List.take_length] at this
                    exact this)
                  have hbb : behV G x = some sy := by rw [HBX.out]; first | rfl | simp
                  have hval := HIN.out x HXM.out
                  have hbx2 : behX G x = some sy := by
                    unfold behV at hbb
                    rw [if_pos hval] at hbb
                    exact hbb
                  have hsr := beh_sort hval hbx2 hs0
                  have hs60 := (valid_parts hval).2.1
                  obtain ⟨t, hst⟩ : ∃ t : Nat, -1 - sy = (t : Int) := ⟨(-1 - sy).toNat, by omega⟩
                  have ht60 : t < 60 := by omega
                  obtain ⟨pb, po, rfl, hpq⟩ := HPC.out (by rw [HNP.out]; omega)
                  have hq := (hpq p (by rw [HNP.out]; exact hpl)).2.1
                  obtain ⟨sp, hsp⟩ : ∃ sp, (G.prods.getD p default).sort = sp := ⟨_, rfl⟩
                  rw [hsp] at hq
                  have hq := cell_below HBpw.out hq
                  clear hke hbb hval hbx2 hsr hs60 hpq
                  by_cases hse : sp = (t : Int)
                  · obtain rfl : true = ib := by
                      rw [HIB3.out]
                      refine (decide_eq_true (HST.out x sy p HXM.out ?_ hs0 (by rw [HNP.out]; exact hpl) ?_)).symm
                      · rw [HBX.out]; first | rfl | simp
                      · show (G.prods.getD p default).sort = _
                        rw [hsp, hse, hst]
                    subst hse
                    clear hsp
                    go_wp2_with fail
                    first | refine ⟨⟨p + 1, by omega, rfl, HBp⟩, ?_⟩ | refine ⟨⟨p + 1, by omega, by omega⟩, ?_⟩
                    show np - ((p : Int) + 1).toNat < np - ((p : Int)).toNat
                    omega
                  · have hse2 : (sp == (t : Int)) = false := by rw [beq_eq_false_iff_ne]; exact hse
                    clear hsp
                    go_wp2_with fail
                    first | refine ⟨⟨p + 1, by omega, rfl, HBp⟩, ?_⟩ | refine ⟨⟨p + 1, by omega, by omega⟩, ?_⟩
                    show np - ((p : Int) + 1).toNat < np - ((p : Int)).toNat
                    omega
            · have s1 : ¬ (p : Int) < (np : Int) := by omega
              go_wp2_with fail
              refine ⟨⟨(j + 1) + 1, by omega, rfl, HBp⟩, ?_⟩
              show m - ((((j + 1) : Nat) : Int) + 1).toNat < m - ((((j + 1) : Nat) : Int)).toNat
              omega
    · have t1 : ¬ (i : Int) < (m : Int) := by omega
      go_wp2_with fail
      go_ret
      exact ⟨rfl, HBw.out⟩
end Go.Proofs.YtjpbhbfklkipkaaDoor
