/- The walk of StatesItems. -/
import Derived.Test.YtjpbhbfklkipkaaDoorTc
namespace Go.Proofs.YtjpbhbfklkipkaaDoor
open Go Go.RowKit Go.Lib
open X14 (It closeV stepV)
set_option linter.unusedVariables false
set_option linter.unusedSimpArgs false
set_option maxRecDepth 100000 in
set_option maxHeartbeats 16000000 in
theorem items_walk {G : GD} {gv v : Value} {w : World} {l : List It} {Bt : Nat} (h : Gram w gv G) (hi : ItemsAt w v l) (s : Int) (s0 : -9223372036854775808 ≤ s) (s1 : s ≤ 9223372036854775807) (ht : Tab Bt w) (hBt : Bt ≤ w.heap.size) :
    Calls Tryd.prog 3 #[gv, v, .int .i64 s] w fun e w' => e = .returned (.bool true) ∧ Below w.heap.size w w' := by
  have HGr := hid h
  have HI := hid hi
  obtain ⟨vo, vc, rfl, hvn⟩ := hi.len
  obtain ⟨n, hln⟩ : ∃ n, l.length = n := ⟨_, rfl⟩
  have HLN := hid hln
  rw [hln] at HI hvn ⊢
  obtain ⟨tv, ov, sv, pv, tf, rv, h⟩ := h
  have hgv := h.eq
  subst hgv
  obtain ⟨W1, e1⟩ : ∃ W1, w.alloc (.cells #[tv, ov, sv, pv, .int .i64 G.start] 27) = W1 := ⟨_, rfl⟩
  have hb1 : Below w.heap.size w W1 := by rw [← e1]; exact (Below.refl _ _).alloc (Nat.le_refl _) _
  have n1 : W1.heap[w.heap.size]? = some (.cells #[tv, ov, sv, pv, .int .i64 G.start] 27 (0, 0)) := by rw [← e1]; exact new_block _ _
  have HB1 := hid hb1
  have HN1 := hid n1
  have KW := hid (works_any W1 (ht.on (hb1.mono hBt)) (Nat.le_trans hBt hb1.size))
  have hlw := (Array.getElem?_eq_some_iff.1 n1).1
  clear h hb1 n1 hi hln ht
  go_enter Tryd.func3, Tryd.ntmps3
  go_wp2_with fail
  refine KW.out.mono ?_
  rintro e w2 ⟨rfl, hb2⟩
  have HB2 := hid (HB1.out.trans (hb2.mono HB1.out.size))
  have HN2 := hid ((hb2.block _ hlw).trans HN1.out)
  have HG2 := hid (HGr.out.below HB2.out)
  have c0 : w2.cell? ⟨w.heap.size, 0, none⟩ = some (tv) := Lib.cell_of_heap HN2.out 0
  have c1 : w2.cell? ⟨w.heap.size, 1, none⟩ = some (ov) := Lib.cell_of_heap HN2.out 1
  have c2 : w2.cell? ⟨w.heap.size, 2, none⟩ = some (sv) := Lib.cell_of_heap HN2.out 2
  have c3 : w2.cell? ⟨w.heap.size, 3, none⟩ = some (pv) := Lib.cell_of_heap HN2.out 3
  have c4 : w2.cell? ⟨w.heap.size, 4, none⟩ = some (.int .i64 G.start) := Lib.cell_of_heap HN2.out 4
  obtain ⟨tv', ov', sv', pv', tf', rv', hg2⟩ := HG2.out
  have heq := hg2.eq
  have KF := few_any hg2
  obtain ⟨fw, hfw⟩ : ∃ fw, decide (fewG G) = fw := ⟨_, rfl⟩
  rw [hfw] at KF
  have KF := hid KF
  clear hb2 KW e1 hg2 heq hfw
  go_wp2_with fail
  refine KF.out.mono ?_
  rintro e w3 ⟨rfl, hb3⟩
  have HB3 := hid (HB2.out.trans (hb3.mono HB2.out.size))
  have HN3 := hid ((hb3.block _ (Array.getElem?_eq_some_iff.1 HN2.out).1).trans HN2.out)
  clear hb3 KF c0 c1 c2 c3 c4
  cases fw
  · go_wp2_with fail
    go_ret
    exact ⟨rfl, HB3.out⟩
  by_cases hn30 : 30 < n
  · have z0 : (30 : Int) < (n : Int) := by omega
    go_wp2_with fail
    go_ret
    exact ⟨rfl, HB3.out⟩
  have z0 : ¬ (30 : Int) < (n : Int) := by omega
  have hn : n ≤ 30 := by omega
  have HI3 := hid (HI.out.below HB3.out)
  have KR := hid (LRow_any HI3.out (by rw [HLN.out]; omega))
  clear hn30
  go_wp2_with fail
  refine KR.out.mono ?_
  rintro e w4 ⟨xv, rfl, hx, hb4⟩
  have HB4 := hid (HB3.out.trans (hb4.mono HB3.out.size))
  have HN4 := hid ((hb4.block _ (Array.getElem?_eq_some_iff.1 HN3.out).1).trans HN3.out)
  have HX4 := hid (own_items hx (by rw [HLN.out]; omega))
  obtain ⟨xo, xc, rfl⟩ := own_shape hx
  rw [HLN.out] at HX4
  clear KR hx hb4
  rw [HLN.out]
  go_wp2_with fail
  go_loopw [10, 11, 12, 13, 14] (fun t10 t11 t12 t13 t14 wr => ∃ k : Nat, k ≤ n ∧ t10 = .int .i64 (k : Int) ∧ Hid (Below w4.heap.size w4 wr)) (fun t10 _ _ _ _ _ => n - (RowKit.intOf t10).toNat)
  case atStart => exact ⟨0, Nat.zero_le _, rfl, hid (Below.refl _ _)⟩
  case round =>
    obtain ⟨k, hk, rfl, HB⟩ := hrel
    have HBw := hid (HB4.out.trans (HB.out.mono HB4.out.size))
    have HGw := hid (HGr.out.below HBw.out)
    have HNw := hid ((HB.out.block _ (Array.getElem?_eq_some_iff.1 HN4.out).1).trans HN4.out)
    have HIw := hid (HI.out.below HBw.out)
    have HXw := hid (HX4.out.below HB.out)
    by_cases hlt : k < n
    · have t1 : (k : Int) < (n : Int) := by omega
      have t2 : (0 : Int) ≤ (k : Int) := by omega
      obtain ⟨x, hx⟩ : ∃ x, l[k]? = some x := ⟨_, List.getElem?_eq_getElem (by rw [HLN.out]; exact hlt)⟩
      obtain ⟨lb, lo, rfl, p0, p1⟩ := HIw.out.at_ hx
      obtain ⟨xb, xo', rfl, q0, q1⟩ := HXw.out.at_ hx
      have HQ0 : Hid (∀ w', Below wr.heap.size wr w' → w'.cell? ⟨lb, lo + k * 2, none⟩ = some (.int .i64 x.1)) := hid fun w' hC => cell_below hC p0
      have HQ1 : Hid (∀ w', Below wr.heap.size wr w' → w'.cell? ⟨lb, lo + k * 2 + 1, none⟩ = some (.int .i64 x.2)) := hid fun w' hC => cell_below hC p1
      have HR0 : Hid (∀ w', Below wr.heap.size wr w' → w'.cell? ⟨xb, xo' + k * 2, none⟩ = some (.int .i64 x.1)) := hid fun w' hC => cell_below hC q0
      have HR1 : Hid (∀ w', Below wr.heap.size wr w' → w'.cell? ⟨xb, xo' + k * 2 + 1, none⟩ = some (.int .i64 x.2)) := hid fun w' hC => cell_below hC q1
      have HC0 : Hid (∀ w', Below wr.heap.size wr w' → w'.cell? ⟨w.heap.size, 0, none⟩ = some (tv)) := hid fun w' hC => cell_below hC (Lib.cell_of_heap HNw.out 0)
      have HC1 : Hid (∀ w', Below wr.heap.size wr w' → w'.cell? ⟨w.heap.size, 1, none⟩ = some (ov)) := hid fun w' hC => cell_below hC (Lib.cell_of_heap HNw.out 1)
      have HC2 : Hid (∀ w', Below wr.heap.size wr w' → w'.cell? ⟨w.heap.size, 2, none⟩ = some (sv)) := hid fun w' hC => cell_below hC (Lib.cell_of_heap HNw.out 2)
      have HC3 : Hid (∀ w', Below wr.heap.size wr w' → w'.cell? ⟨w.heap.size, 3, none⟩ = some (pv)) := hid fun w' hC => cell_below hC (Lib.cell_of_heap HNw.out 3)
      have HC4 : Hid (∀ w', Below wr.heap.size wr w' → w'.cell? ⟨w.heap.size, 4, none⟩ = some (.int .i64 G.start)) := hid fun w' hC => cell_below hC (Lib.cell_of_heap HNw.out 4)
      obtain ⟨sy, hsy⟩ : ∃ sy, (behV G x).getD 0 = sy := ⟨_, rfl⟩
      obtain ⟨ok, hok⟩ : ∃ ok, (behV G x).isSome = ok := ⟨_, rfl⟩
      have hKB : ∀ w', Below wr.heap.size wr w' → Calls Tryd.prog 12 #[.agg #[tv, ov, sv, pv, .int .i64 G.start], .agg #[.int .i64 x.1, .int .i64 x.2]] w' fun e w'' => e = .returned (.tuple #[.int .i64 sy, .bool ok]) ∧ Below w'.heap.size w' w'' := fun w' hC => by
        have h2 := Behind_any (HGw.out.below hC) x
        unfold BehVP at h2
        rw [hsy, hok] at h2
        exact h2
      have hKR : ∀ w', Below wr.heap.size wr w' → Calls Tryd.prog 13 #[.agg #[tv, ov, sv, pv, .int .i64 G.start], .agg #[.int .i64 x.1, .int .i64 x.2]] w' fun e w'' => e = .returned (.tuple #[.int .i64 sy, .bool ok]) ∧ Below w'.heap.size w' w'' := fun w' hC => by
        have h2 := RBehind_any (HGw.out.below hC) x
        unfold BehVP at h2
        rw [hsy, hok] at h2
        exact h2
      have KB := hid hKB
      clear hKB hx hsy hok p0 p1 q0 q1
      have KR := hid hKR
      clear hKR
      go_wp2_with fail
      refine wp_region_below (by kernel_rfl) (by kernel_rfl) ?_
      with_reducible refine BigFrame.wpQuiet_want (by kernel_rfl) (fun K hK => ?_)
      apply Exists.intro
      refine ⟨fun w' hC => ?_, hK _ ?_⟩
      · have f0' := HQ0.out w' hC
        have f1' := HQ1.out w' hC
        have f2' := HC0.out w' hC
        have f3' := HC1.out w' hC
        have f4' := HC2.out w' hC
        have f5' := HC3.out w' hC
        have f6' := HC4.out w' hC
        unfold Oper.quietAt
        go_simp
        first | with_reducible rfl | done
      clear hK K
      try simp only [Act.put, List.setIfInBounds_toArray, List.set_cons_zero, List.set_cons_succ]
      with_reducible refine BigFrame.wpQuiet_want (by kernel_rfl) (fun K hK => ?_)
      apply Exists.intro
      refine ⟨fun w' hC => ?_, hK _ ?_⟩
      · unfold Oper.quietAt
        go_simp
        first | with_reducible rfl | done
      clear hK K
      try simp only [Act.put, List.setIfInBounds_toArray, List.set_cons_zero, List.set_cons_succ]
      with_reducible refine BigFrame.wpQuiet_want (by kernel_rfl) (fun K hK => ?_)
      apply Exists.intro
      refine ⟨fun w' hC => ?_, hK _ ?_⟩
      · unfold Oper.quietAt
        go_simp
        first | with_reducible rfl | done
      clear hK K
      try simp only [Act.put, List.setIfInBounds_toArray, List.set_cons_zero, List.set_cons_succ]
      with_reducible refine BigFrame.wpQuiet_want (by kernel_rfl) (fun K hK => ?_)
      apply Exists.intro
      refine ⟨fun w' hC => ?_, hK _ ?_⟩
      · unfold Oper.quietAt
        go_simp
        first | with_reducible rfl | done
      clear hK K
      try simp only [Act.put, List.setIfInBounds_toArray, List.set_cons_zero, List.set_cons_succ]
      with_reducible refine BigFrame.wpQuiet_want (by kernel_rfl) (fun K hK => ?_)
      apply Exists.intro
      refine ⟨fun w' hC => ?_, hK _ ?_⟩
      · have f0' := HQ0.out w' hC
        have f1' := HQ1.out w' hC
        have f2' := HC0.out w' hC
        have f3' := HC1.out w' hC
        have f4' := HC2.out w' hC
        have f5' := HC3.out w' hC
        have f6' := HC4.out w' hC
        unfold Oper.quietAt
        go_simp
        first | with_reducible rfl | done
      clear hK K
      try simp only [Act.put, List.setIfInBounds_toArray, List.set_cons_zero, List.set_cons_succ]
      with_reducible refine BigFrame.wpQuiet_want (by kernel_rfl) (fun K hK => ?_)
      apply Exists.intro
      refine ⟨fun w' hC => ?_, hK _ ?_⟩
      · unfold Oper.quietAt
        go_simp
        first
          | with_reducible exact below_call hC (Nat.le_refl _) (KB.out w' hC)
      clear hK K
      try simp only [Act.put, List.setIfInBounds_toArray, List.set_cons_zero, List.set_cons_succ]
      with_reducible refine BigFrame.wpQuiet_want (by kernel_rfl) (fun K hK => ?_)
      apply Exists.intro
      refine ⟨fun w' hC => ?_, hK _ ?_⟩
      · unfold Oper.quietAt
        go_simp
        first | with_reducible rfl | done
      clear hK K
      try simp only [Act.put, List.setIfInBounds_toArray, List.set_cons_zero, List.set_cons_succ]
      with_reducible refine BigFrame.wpQuiet_want (by kernel_rfl) (fun K hK => ?_)
      apply Exists.intro
      refine ⟨fun w' hC => ?_, hK _ ?_⟩
      · unfold Oper.quietAt
        go_simp
        first | with_reducible rfl | done
      clear hK K
      try simp only [Act.put, List.setIfInBounds_toArray, List.set_cons_zero, List.set_cons_succ]
      with_reducible refine BigFrame.wpQuiet_want (by kernel_rfl) (fun K hK => ?_)
      apply Exists.intro
      refine ⟨fun w' hC => ?_, hK _ ?_⟩
      · unfold Oper.quietAt
        go_simp
        first | with_reducible rfl | done
      clear hK K
      try simp only [Act.put, List.setIfInBounds_toArray, List.set_cons_zero, List.set_cons_succ]
      with_reducible refine BigFrame.wpQuiet_want (by kernel_rfl) (fun K hK => ?_)
      apply Exists.intro
      refine ⟨fun w' hC => ?_, hK _ ?_⟩
      · unfold Oper.quietAt
        go_simp
        first | with_reducible rfl | done
      clear hK K
      try simp only [Act.put, List.setIfInBounds_toArray, List.set_cons_zero, List.set_cons_succ]
      with_reducible refine BigFrame.wpQuiet_want (by kernel_rfl) (fun K hK => ?_)
      apply Exists.intro
      refine ⟨fun w' hC => ?_, hK _ ?_⟩
      · unfold Oper.quietAt
        go_simp
        first | with_reducible rfl | done
      clear hK K
      try simp only [Act.put, List.setIfInBounds_toArray, List.set_cons_zero, List.set_cons_succ]
      refine wpQuiet_nil ?_
      intro w6 hb6
      have HB6 := hid hb6
      have HQ0 : Hid (∀ w', Below w6.heap.size w6 w' → w'.cell? ⟨xb, xo' + k * 2, none⟩ = some (.int .i64 x.1)) := hid fun w' hC => HR0.out w' (HB6.out.trans (hC.mono HB6.out.size))
      have HQ1 : Hid (∀ w', Below w6.heap.size w6 w' → w'.cell? ⟨xb, xo' + k * 2 + 1, none⟩ = some (.int .i64 x.2)) := hid fun w' hC => HR1.out w' (HB6.out.trans (hC.mono HB6.out.size))
      have HG6 := HGw.out.below hb6
      have HD0 : Hid (∀ w', Below w6.heap.size w6 w' → w'.cell? ⟨w.heap.size, 0, none⟩ = some (tv)) := hid fun w' hC => HC0.out w' (HB6.out.trans (hC.mono HB6.out.size))
      have HD1 : Hid (∀ w', Below w6.heap.size w6 w' → w'.cell? ⟨w.heap.size, 1, none⟩ = some (ov)) := hid fun w' hC => HC1.out w' (HB6.out.trans (hC.mono HB6.out.size))
      have HD2 : Hid (∀ w', Below w6.heap.size w6 w' → w'.cell? ⟨w.heap.size, 2, none⟩ = some (sv)) := hid fun w' hC => HC2.out w' (HB6.out.trans (hC.mono HB6.out.size))
      have HD3 : Hid (∀ w', Below w6.heap.size w6 w' → w'.cell? ⟨w.heap.size, 3, none⟩ = some (pv)) := hid fun w' hC => HC3.out w' (HB6.out.trans (hC.mono HB6.out.size))
      have HD4 : Hid (∀ w', Below w6.heap.size w6 w' → w'.cell? ⟨w.heap.size, 4, none⟩ = some (.int .i64 G.start)) := hid fun w' hC => HC4.out w' (HB6.out.trans (hC.mono HB6.out.size))
      have hKR2 : ∀ w', Below w6.heap.size w6 w' → Calls Tryd.prog 13 #[.agg #[tv, ov, sv, pv, .int .i64 G.start], .agg #[.int .i64 x.1, .int .i64 x.2]] w' fun e w'' => e = .returned (.tuple #[.int .i64 sy, .bool ok]) ∧ Below w'.heap.size w' w'' := fun w' hC => KR.out w' (HB6.out.trans (hC.mono HB6.out.size))
      have KR2 := hid hKR2
      clear hb6 hKR2 HG6
      go_wp2_with fail
      refine wp_region_below (by kernel_rfl) (by kernel_rfl) ?_
      with_reducible refine BigFrame.wpQuiet_want (by kernel_rfl) (fun K hK => ?_)
      apply Exists.intro
      refine ⟨fun w' hC => ?_, hK _ ?_⟩
      · have f0' := HQ0.out w' hC
        have f1' := HQ1.out w' hC
        have f2' := HD0.out w' hC
        have f3' := HD1.out w' hC
        have f4' := HD2.out w' hC
        have f5' := HD3.out w' hC
        have f6' := HD4.out w' hC
        unfold Oper.quietAt
        go_simp
        first | with_reducible rfl | done
      clear hK K
      try simp only [Act.put, List.setIfInBounds_toArray, List.set_cons_zero, List.set_cons_succ]
      with_reducible refine BigFrame.wpQuiet_want (by kernel_rfl) (fun K hK => ?_)
      apply Exists.intro
      refine ⟨fun w' hC => ?_, hK _ ?_⟩
      · unfold Oper.quietAt
        go_simp
        first | with_reducible rfl | done
      clear hK K
      try simp only [Act.put, List.setIfInBounds_toArray, List.set_cons_zero, List.set_cons_succ]
      with_reducible refine BigFrame.wpQuiet_want (by kernel_rfl) (fun K hK => ?_)
      apply Exists.intro
      refine ⟨fun w' hC => ?_, hK _ ?_⟩
      · unfold Oper.quietAt
        go_simp
        first | with_reducible rfl | done
      clear hK K
      try simp only [Act.put, List.setIfInBounds_toArray, List.set_cons_zero, List.set_cons_succ]
      with_reducible refine BigFrame.wpQuiet_want (by kernel_rfl) (fun K hK => ?_)
      apply Exists.intro
      refine ⟨fun w' hC => ?_, hK _ ?_⟩
      · unfold Oper.quietAt
        go_simp
        first | with_reducible rfl | done
      clear hK K
      try simp only [Act.put, List.setIfInBounds_toArray, List.set_cons_zero, List.set_cons_succ]
      with_reducible refine BigFrame.wpQuiet_want (by kernel_rfl) (fun K hK => ?_)
      apply Exists.intro
      refine ⟨fun w' hC => ?_, hK _ ?_⟩
      · have f0' := HQ0.out w' hC
        have f1' := HQ1.out w' hC
        have f2' := HD0.out w' hC
        have f3' := HD1.out w' hC
        have f4' := HD2.out w' hC
        have f5' := HD3.out w' hC
        have f6' := HD4.out w' hC
        unfold Oper.quietAt
        go_simp
        first | with_reducible rfl | done
      clear hK K
      try simp only [Act.put, List.setIfInBounds_toArray, List.set_cons_zero, List.set_cons_succ]
      with_reducible refine BigFrame.wpQuiet_want (by kernel_rfl) (fun K hK => ?_)
      apply Exists.intro
      refine ⟨fun w' hC => ?_, hK _ ?_⟩
      · unfold Oper.quietAt
        go_simp
        first
          | with_reducible exact below_call hC (Nat.le_refl _) (KR2.out w' hC)
      clear hK K
      try simp only [Act.put, List.setIfInBounds_toArray, List.set_cons_zero, List.set_cons_succ]
      with_reducible refine BigFrame.wpQuiet_want (by kernel_rfl) (fun K hK => ?_)
      apply Exists.intro
      refine ⟨fun w' hC => ?_, hK _ ?_⟩
      · unfold Oper.quietAt
        go_simp
        first | with_reducible rfl | done
      clear hK K
      try simp only [Act.put, List.setIfInBounds_toArray, List.set_cons_zero, List.set_cons_succ]
      with_reducible refine BigFrame.wpQuiet_want (by kernel_rfl) (fun K hK => ?_)
      apply Exists.intro
      refine ⟨fun w' hC => ?_, hK _ ?_⟩
      · unfold Oper.quietAt
        go_simp
        first | with_reducible rfl | done
      clear hK K
      try simp only [Act.put, List.setIfInBounds_toArray, List.set_cons_zero, List.set_cons_succ]
      with_reducible refine BigFrame.wpQuiet_want (by kernel_rfl) (fun K hK => ?_)
      apply Exists.intro
      refine ⟨fun w' hC => ?_, hK _ ?_⟩
      · unfold Oper.quietAt
        go_simp
        first | with_reducible rfl | done
      clear hK K
      try simp only [Act.put, List.setIfInBounds_toArray, List.set_cons_zero, List.set_cons_succ]
      with_reducible refine BigFrame.wpQuiet_want (by kernel_rfl) (fun K hK => ?_)
      apply Exists.intro
      refine ⟨fun w' hC => ?_, hK _ ?_⟩
      · unfold Oper.quietAt
        go_simp
        first | with_reducible rfl | done
      clear hK K
      try simp only [Act.put, List.setIfInBounds_toArray, List.set_cons_zero, List.set_cons_succ]
      with_reducible refine BigFrame.wpQuiet_want (by kernel_rfl) (fun K hK => ?_)
      apply Exists.intro
      refine ⟨fun w' hC => ?_, hK _ ?_⟩
      · unfold Oper.quietAt
        go_simp
        first | with_reducible rfl | done
      clear hK K
      try simp only [Act.put, List.setIfInBounds_toArray, List.set_cons_zero, List.set_cons_succ]
      refine wpQuiet_nil ?_
      intro w7 hb7
      have HB7 := hid (HB.out.trans ((HB6.out.trans (hb7.mono HB6.out.size)).mono HB.out.size))
      clear hb7
      have hcc : (sy != sy) = false := by simp
      have hdd : (ok != ok) = false := by simp
      go_wp2_with fail
      refine ⟨⟨k + 1, by omega, rfl, HB7⟩, ?_⟩
      show n - ((k : Int) + 1).toNat < n - ((k : Int)).toNat
      omega
    · have t1 : ¬ (k : Int) < (n : Int) := by omega
      obtain ⟨we, ewe⟩ : ∃ we, wr.drew = we := ⟨_, rfl⟩
      have hbe : Below wr.heap.size wr we := by rw [← ewe]; exact (Below.refl _ _).drew
      have HBe := hid (HBw.out.trans (hbe.mono HBw.out.size))
      have HS := hid (show ∀ w', Below we.heap.size we w' → (w'.cell? ⟨w.heap.size, 0, none⟩ = some (tv) ∧ w'.cell? ⟨w.heap.size, 1, none⟩ = some (ov) ∧ w'.cell? ⟨w.heap.size, 2, none⟩ = some (sv) ∧ w'.cell? ⟨w.heap.size, 3, none⟩ = some (pv) ∧ w'.cell? ⟨w.heap.size, 4, none⟩ = some (.int .i64 G.start)) from fun w' hC => by
        have hh := hbe.trans (hC.mono hbe.size)
        have nG := (hh.block _ (Array.getElem?_eq_some_iff.1 HNw.out).1).trans HNw.out
        exact ⟨Lib.cell_of_heap nG 0, Lib.cell_of_heap nG 1, Lib.cell_of_heap nG 2, Lib.cell_of_heap nG 3, Lib.cell_of_heap nG 4⟩)
      have HH0 := HS.out we (Below.refl _ _)
      have HXe := hid (HXw.out.below hbe)
      have HIe := hid (HIw.out.below hbe)
      have HGe := hid (HGr.out.below HBe.out)
      have hl100 : l.length ≤ 100000 := by rw [HLN.out]; omega
      have HL100 := hid hl100
      clear hbe hl100
      go_wp2_with fail
      refine region_T 23 (fun w' => w'.cell? ⟨w.heap.size, 0, none⟩ = some (tv) ∧ w'.cell? ⟨w.heap.size, 1, none⟩ = some (ov) ∧ w'.cell? ⟨w.heap.size, 2, none⟩ = some (sv) ∧ w'.cell? ⟨w.heap.size, 3, none⟩ = some (pv) ∧ w'.cell? ⟨w.heap.size, 4, none⟩ = some (.int .i64 G.start)) (by kernel_rfl) (by rw [ewe]; exact HH0) (fun inv hHeld => ?_)
      rw [ewe]
      clear hHeld ewe
      refine anyT_take (i := 0) (oi := { dst := some 62, op := Go.Op.move (Go.Operand.tmp 7), type := 4, pos := "law.go:62", after := #[], guard := none }) (v := ?_) rfl (by kernel_rfl) (by kernel_rfl) (by kernel_rfl) (by decide) (by decide) (by kernel_rfl) (by kernel_rfl) (fun _ _ _ h => h) (Or.inl ⟨by rfl, ?_⟩) HH0 inv (fun inv => ?_)
      rotate_left
      · intro w hSw
        try dsimp only at hSw
        go_simp
        try with_reducible rfl
      simp only [Act.put, List.setIfInBounds_toArray, List.set_cons_zero, List.set_cons_succ]
      refine anyT_take (i := 1) (oi := { dst := some 63, op := Go.Op.move (Go.Operand.tmp 62), type := 4, pos := "law.go:62", after := #[{ on := 0, ground := Go.Ground.data }], guard := none }) (v := ?_) rfl (by kernel_rfl) (by kernel_rfl) (by kernel_rfl) (by decide) (by decide) (by kernel_rfl) (by kernel_rfl) (fun _ _ _ h => h) (Or.inl ⟨by rfl, ?_⟩) HH0 inv (fun inv => ?_)
      rotate_left
      · intro w hSw
        try dsimp only at hSw
        go_simp
        try with_reducible rfl
      simp only [Act.put, List.setIfInBounds_toArray, List.set_cons_zero, List.set_cons_succ]
      refine anyT_take (i := 2) (oi := { dst := some 64, op := Go.Op.load 27 (Go.Operand.tmp 3), type := 27, pos := "law.go:62", after := #[{ on := 1, ground := Go.Ground.guard }], guard := some (1, true) }) (v := ?_) rfl (by kernel_rfl) (by kernel_rfl) (by kernel_rfl) (by decide) (by decide) (by kernel_rfl) (by kernel_rfl) (fun _ _ _ h => h) (Or.inl ⟨by rfl, ?_⟩) HH0 inv (fun inv => ?_)
      rotate_left
      · intro w hSw
        try dsimp only at hSw
        go_simp
        try with_reducible rfl
      simp only [Act.put, List.setIfInBounds_toArray, List.set_cons_zero, List.set_cons_succ]
      refine anyT_take (i := 3) (oi := { dst := some 65, op := Go.Op.move (Go.Operand.tmp 1), type := 28, pos := "law.go:62", after := #[{ on := 1, ground := Go.Ground.guard }], guard := some (1, true) }) (v := ?_) rfl (by kernel_rfl) (by kernel_rfl) (by kernel_rfl) (by decide) (by decide) (by kernel_rfl) (by kernel_rfl) (fun _ _ _ h => h) (Or.inl ⟨by rfl, ?_⟩) HH0 inv (fun inv => ?_)
      rotate_left
      · intro w hSw
        try dsimp only at hSw
        go_simp
        try with_reducible rfl
      simp only [Act.put, List.setIfInBounds_toArray, List.set_cons_zero, List.set_cons_succ]
      refine anyT_take (i := 6) (oi := { dst := some 68, op := Go.Op.load 27 (Go.Operand.tmp 3), type := 27, pos := "law.go:62", after := #[{ on := 1, ground := Go.Ground.guard }], guard := some (1, true) }) (v := ?_) rfl (by kernel_rfl) (by kernel_rfl) (by kernel_rfl) (by decide) (by decide) (by kernel_rfl) (by kernel_rfl) (fun _ _ _ h => h) (Or.inl ⟨by rfl, ?_⟩) HH0 inv (fun inv => ?_)
      rotate_left
      · intro w hSw
        try dsimp only at hSw
        go_simp
        try with_reducible rfl
      simp only [Act.put, List.setIfInBounds_toArray, List.set_cons_zero, List.set_cons_succ]
      refine anyT_take (i := 7) (oi := { dst := some 69, op := Go.Op.move (Go.Operand.tmp 9), type := 32, pos := "law.go:62", after := #[{ on := 1, ground := Go.Ground.guard }], guard := some (1, true) }) (v := ?_) rfl (by kernel_rfl) (by kernel_rfl) (by kernel_rfl) (by decide) (by decide) (by kernel_rfl) (by kernel_rfl) (fun _ _ _ h => h) (Or.inl ⟨by rfl, ?_⟩) HH0 inv (fun inv => ?_)
      rotate_left
      · intro w hSw
        try dsimp only at hSw
        go_simp
        try with_reducible rfl
      simp only [Act.put, List.setIfInBounds_toArray, List.set_cons_zero, List.set_cons_succ]
      refine anyT_next (i := 4) (o := { dst := some 66, op := Go.Op.call { callee := Go.Callee.value (Go.Operand.func 15), args := #[Go.Operand.tmp 64, Go.Operand.tmp 65], argTypes := #[27, 28] }, type := 28, pos := "law.go:62", after := #[{ on := 2, ground := Go.Ground.data }, { on := 3, ground := Go.Ground.data }, { on := 1, ground := Go.Ground.chain }, { on := 1, ground := Go.Ground.guard }], guard := some (1, true) }) (by kernel_rfl) rfl (by decide) inv (fun inv K' hK => ?_)
      go_simp
      refine (Close_any HGe.out HIe.out HL100.out).mono ?_
      rintro e wa ⟨av, rfl, hav, hba⟩
      have HBa := hid hba
      have HAV := hid hav
      obtain ⟨ao, ac, rfl, _⟩ := hav.len
      have hcl := X14.closeV_len G l
      have HH1 := HS.out wa HBa.out
      refine hK.out _ _ HH1 ?_
      clear hK K' HH0 hav hba
      try simp only [Act.put, List.setIfInBounds_toArray, List.set_cons_zero, List.set_cons_succ]
      refine anyT_next (i := 5) (o := { dst := some 67, op := Go.Op.call { callee := Go.Callee.value (Go.Operand.func 11), args := #[Go.Operand.tmp 66], argTypes := #[28] }, type := 32, pos := "law.go:62", after := #[{ on := 4, ground := Go.Ground.data }, { on := 4, ground := Go.Ground.chain }, { on := 1, ground := Go.Ground.guard }], guard := some (1, true) }) (by kernel_rfl) rfl (by decide) inv (fun inv K' hK => ?_)
      go_simp
      refine (LRow_any HAV.out (by omega)).mono ?_
      rintro e wb ⟨bv, rfl, hbv, hbb⟩
      have HBb := hid (HBa.out.trans (hbb.mono HBa.out.size))
      have HBV := hid (own_items hbv (by omega))
      obtain ⟨bo, bc, rfl⟩ := own_shape hbv
      have HH0 := HS.out wb HBb.out
      refine hK.out _ _ HH0 ?_
      clear hK K' HH1 hbv hbb
      try simp only [Act.put, List.setIfInBounds_toArray, List.set_cons_zero, List.set_cons_succ]
      refine anyT_next (i := 8) (o := { dst := some 70, op := Go.Op.call { callee := Go.Callee.value (Go.Operand.func 16), args := #[Go.Operand.tmp 68, Go.Operand.tmp 69], argTypes := #[27, 32] }, type := 32, pos := "law.go:62", after := #[{ on := 6, ground := Go.Ground.data }, { on := 7, ground := Go.Ground.data }, { on := 5, ground := Go.Ground.chain }, { on := 1, ground := Go.Ground.guard }], guard := some (1, true) }) (by kernel_rfl) rfl (by decide) inv (fun inv K' hK => ?_)
      go_simp
      refine (RClose_any (HGe.out.below HBb.out) (HXe.out.below HBb.out) HL100.out).mono ?_
      rintro e wc ⟨cv, rfl, hcv, hbc⟩
      have HBc := hid (HBb.out.trans (hbc.mono HBb.out.size))
      have HBV := hid (HBV.out.below hbc)
      have HCV := hid (own_items hcv (by omega))
      obtain ⟨co, cc, rfl⟩ := own_shape hcv
      have HH1 := HS.out wc HBc.out
      refine hK.out _ _ HH1 ?_
      clear hK K' HH0 hcv hbc
      try simp only [Act.put, List.setIfInBounds_toArray, List.set_cons_zero, List.set_cons_succ]
      refine anyT_next (i := 9) (o := { dst := some 71, op := Go.Op.call { callee := Go.Callee.value (Go.Operand.func 14), args := #[Go.Operand.tmp 67, Go.Operand.tmp 70], argTypes := #[32, 32] }, type := 4, pos := "law.go:62", after := #[{ on := 5, ground := Go.Ground.data }, { on := 8, ground := Go.Ground.data }, { on := 8, ground := Go.Ground.chain }, { on := 1, ground := Go.Ground.guard }], guard := some (1, true) }) (by kernel_rfl) rfl (by decide) inv (fun inv K' hK => ?_)
      go_simp
      refine (RRow_any HBV.out HCV.out).mono ?_
      rintro e wd ⟨e9, hbd⟩
      rw [decide_eq_true (rfl : closeV G l = closeV G l)] at e9
      subst e9
      have HBd := hid (HBc.out.trans (hbd.mono HBc.out.size))
      have HH0 := HS.out wd HBd.out
      refine hK.out _ _ HH0 ?_
      clear hK K' HH1 hbd
      try simp only [Act.put, List.setIfInBounds_toArray, List.set_cons_zero, List.set_cons_succ]
      refine anyT_take (i := 10) (oi := { dst := some 72, op := Go.Op.pick (Go.Operand.tmp 63) (Go.Operand.tmp 71) (Go.Operand.const (Go.Value.bool false)), type := 4, pos := "law.go:62", after := #[{ on := 1, ground := Go.Ground.data }, { on := 9, ground := Go.Ground.data }], guard := none }) (v := ?_) rfl (by kernel_rfl) (by kernel_rfl) (by kernel_rfl) (by decide) (by decide) (by kernel_rfl) (by kernel_rfl) (fun _ _ _ h => h) (Or.inl ⟨by rfl, ?_⟩) HH0 inv (fun inv => ?_)
      rotate_left
      · intro w hSw
        try dsimp only at hSw
        go_simp
        try with_reducible rfl
      simp only [Act.put, List.setIfInBounds_toArray, List.set_cons_zero, List.set_cons_succ]
      refine anyT_take (i := 11) (oi := { dst := some 73, op := Go.Op.move (Go.Operand.tmp 72), type := 4, pos := "law.go:62", after := #[{ on := 10, ground := Go.Ground.data }, { on := 9, ground := Go.Ground.chain }], guard := none }) (v := ?_) rfl (by kernel_rfl) (by kernel_rfl) (by kernel_rfl) (by decide) (by decide) (by kernel_rfl) (by kernel_rfl) (fun _ _ _ h => h) (Or.inl ⟨by rfl, ?_⟩) HH0 inv (fun inv => ?_)
      rotate_left
      · intro w hSw
        try dsimp only at hSw
        go_simp
        try with_reducible rfl
      simp only [Act.put, List.setIfInBounds_toArray, List.set_cons_zero, List.set_cons_succ]
      refine anyT_take (i := 12) (oi := { dst := some 74, op := Go.Op.load 27 (Go.Operand.tmp 3), type := 27, pos := "law.go:62", after := #[{ on := 11, ground := Go.Ground.guard }], guard := some (11, true) }) (v := ?_) rfl (by kernel_rfl) (by kernel_rfl) (by kernel_rfl) (by decide) (by decide) (by kernel_rfl) (by kernel_rfl) (fun _ _ _ h => h) (Or.inl ⟨by rfl, ?_⟩) HH0 inv (fun inv => ?_)
      rotate_left
      · intro w hSw
        try dsimp only at hSw
        go_simp
        try with_reducible rfl
      simp only [Act.put, List.setIfInBounds_toArray, List.set_cons_zero, List.set_cons_succ]
      refine anyT_take (i := 13) (oi := { dst := some 75, op := Go.Op.move (Go.Operand.tmp 1), type := 28, pos := "law.go:62", after := #[{ on := 11, ground := Go.Ground.guard }], guard := some (11, true) }) (v := ?_) rfl (by kernel_rfl) (by kernel_rfl) (by kernel_rfl) (by decide) (by decide) (by kernel_rfl) (by kernel_rfl) (fun _ _ _ h => h) (Or.inl ⟨by rfl, ?_⟩) HH0 inv (fun inv => ?_)
      rotate_left
      · intro w hSw
        try dsimp only at hSw
        go_simp
        try with_reducible rfl
      simp only [Act.put, List.setIfInBounds_toArray, List.set_cons_zero, List.set_cons_succ]
      refine anyT_take (i := 14) (oi := { dst := some 76, op := Go.Op.move (Go.Operand.tmp 2), type := 29, pos := "law.go:62", after := #[{ on := 11, ground := Go.Ground.guard }], guard := some (11, true) }) (v := ?_) rfl (by kernel_rfl) (by kernel_rfl) (by kernel_rfl) (by decide) (by decide) (by kernel_rfl) (by kernel_rfl) (fun _ _ _ h => h) (Or.inl ⟨by rfl, ?_⟩) HH0 inv (fun inv => ?_)
      rotate_left
      · intro w hSw
        try dsimp only at hSw
        go_simp
        try with_reducible rfl
      simp only [Act.put, List.setIfInBounds_toArray, List.set_cons_zero, List.set_cons_succ]
      refine anyT_take (i := 17) (oi := { dst := some 79, op := Go.Op.load 27 (Go.Operand.tmp 3), type := 27, pos := "law.go:62", after := #[{ on := 11, ground := Go.Ground.guard }], guard := some (11, true) }) (v := ?_) rfl (by kernel_rfl) (by kernel_rfl) (by kernel_rfl) (by decide) (by decide) (by kernel_rfl) (by kernel_rfl) (fun _ _ _ h => h) (Or.inl ⟨by rfl, ?_⟩) HH0 inv (fun inv => ?_)
      rotate_left
      · intro w hSw
        try dsimp only at hSw
        go_simp
        try with_reducible rfl
      simp only [Act.put, List.setIfInBounds_toArray, List.set_cons_zero, List.set_cons_succ]
      refine anyT_take (i := 18) (oi := { dst := some 80, op := Go.Op.move (Go.Operand.tmp 9), type := 32, pos := "law.go:62", after := #[{ on := 11, ground := Go.Ground.guard }], guard := some (11, true) }) (v := ?_) rfl (by kernel_rfl) (by kernel_rfl) (by kernel_rfl) (by decide) (by decide) (by kernel_rfl) (by kernel_rfl) (fun _ _ _ h => h) (Or.inl ⟨by rfl, ?_⟩) HH0 inv (fun inv => ?_)
      rotate_left
      · intro w hSw
        try dsimp only at hSw
        go_simp
        try with_reducible rfl
      simp only [Act.put, List.setIfInBounds_toArray, List.set_cons_zero, List.set_cons_succ]
      refine anyT_take (i := 19) (oi := { dst := some 81, op := Go.Op.move (Go.Operand.tmp 2), type := 29, pos := "law.go:62", after := #[{ on := 11, ground := Go.Ground.guard }], guard := some (11, true) }) (v := ?_) rfl (by kernel_rfl) (by kernel_rfl) (by kernel_rfl) (by decide) (by decide) (by kernel_rfl) (by kernel_rfl) (fun _ _ _ h => h) (Or.inl ⟨by rfl, ?_⟩) HH0 inv (fun inv => ?_)
      rotate_left
      · intro w hSw
        try dsimp only at hSw
        go_simp
        try with_reducible rfl
      simp only [Act.put, List.setIfInBounds_toArray, List.set_cons_zero, List.set_cons_succ]
      refine anyT_next (i := 15) (o := { dst := some 77, op := Go.Op.call { callee := Go.Callee.value (Go.Operand.func 17), args := #[Go.Operand.tmp 74, Go.Operand.tmp 75, Go.Operand.tmp 76], argTypes := #[27, 28, 29] }, type := 28, pos := "law.go:62", after := #[{ on := 12, ground := Go.Ground.data }, { on := 13, ground := Go.Ground.data }, { on := 14, ground := Go.Ground.data }, { on := 11, ground := Go.Ground.chain }, { on := 11, ground := Go.Ground.guard }], guard := some (11, true) }) (by kernel_rfl) rfl (by decide) inv (fun inv K' hK => ?_)
      go_simp
      refine (Step_any (HGe.out.below HBd.out) (HIe.out.below HBd.out) HL100.out s s0 s1).mono ?_
      rintro e wf ⟨fv, rfl, hfv, hbf⟩
      have HBf := hid (HBd.out.trans (hbf.mono HBd.out.size))
      have HFV := hid hfv
      obtain ⟨fo, fc, rfl, _⟩ := hfv.len
      have hsl := X14.stepV_len G l s
      have HH1 := HS.out wf HBf.out
      refine hK.out _ _ HH1 ?_
      clear hK K' HH0 hfv hbf
      try simp only [Act.put, List.setIfInBounds_toArray, List.set_cons_zero, List.set_cons_succ]
      refine anyT_next (i := 16) (o := { dst := some 78, op := Go.Op.call { callee := Go.Callee.value (Go.Operand.func 11), args := #[Go.Operand.tmp 77], argTypes := #[28] }, type := 32, pos := "law.go:62", after := #[{ on := 15, ground := Go.Ground.data }, { on := 15, ground := Go.Ground.chain }, { on := 11, ground := Go.Ground.guard }], guard := some (11, true) }) (by kernel_rfl) rfl (by decide) inv (fun inv K' hK => ?_)
      go_simp
      refine (LRow_any HFV.out (by omega)).mono ?_
      rintro e wg ⟨gv2, rfl, hgv2, hbg⟩
      have HBg := hid (HBf.out.trans (hbg.mono HBf.out.size))
      have HGV := hid (own_items hgv2 (by omega))
      obtain ⟨go, gc, rfl⟩ := own_shape hgv2
      have HH0 := HS.out wg HBg.out
      refine hK.out _ _ HH0 ?_
      clear hK K' HH1 hgv2 hbg
      try simp only [Act.put, List.setIfInBounds_toArray, List.set_cons_zero, List.set_cons_succ]
      refine anyT_next (i := 20) (o := { dst := some 82, op := Go.Op.call { callee := Go.Callee.value (Go.Operand.func 18), args := #[Go.Operand.tmp 79, Go.Operand.tmp 80, Go.Operand.tmp 81], argTypes := #[27, 32, 29] }, type := 32, pos := "law.go:62", after := #[{ on := 17, ground := Go.Ground.data }, { on := 18, ground := Go.Ground.data }, { on := 19, ground := Go.Ground.data }, { on := 16, ground := Go.Ground.chain }, { on := 11, ground := Go.Ground.guard }], guard := some (11, true) }) (by kernel_rfl) rfl (by decide) inv (fun inv K' hK => ?_)
      go_simp
      refine (RStep_any (HGe.out.below HBg.out) (HXe.out.below HBg.out) HL100.out s).mono ?_
      rintro e wh ⟨hv, rfl, hhv, hbh⟩
      have HBh := hid (HBg.out.trans (hbh.mono HBg.out.size))
      have HGV := hid (HGV.out.below hbh)
      have HHV := hid (own_items hhv (by omega))
      obtain ⟨ho, hc, rfl⟩ := own_shape hhv
      have HH1 := HS.out wh HBh.out
      refine hK.out _ _ HH1 ?_
      clear hK K' HH0 hhv hbh
      try simp only [Act.put, List.setIfInBounds_toArray, List.set_cons_zero, List.set_cons_succ]
      refine anyT_next (i := 21) (o := { dst := some 83, op := Go.Op.call { callee := Go.Callee.value (Go.Operand.func 14), args := #[Go.Operand.tmp 78, Go.Operand.tmp 82], argTypes := #[32, 32] }, type := 4, pos := "law.go:62", after := #[{ on := 16, ground := Go.Ground.data }, { on := 20, ground := Go.Ground.data }, { on := 20, ground := Go.Ground.chain }, { on := 11, ground := Go.Ground.guard }], guard := some (11, true) }) (by kernel_rfl) rfl (by decide) inv (fun inv K' hK => ?_)
      go_simp
      refine (RRow_any HGV.out HHV.out).mono ?_
      rintro e wi ⟨e9, hbi⟩
      rw [decide_eq_true (rfl : stepV G l s = stepV G l s)] at e9
      subst e9
      have HBi := hid (HBe.out.trans ((HBh.out.trans (hbi.mono HBh.out.size)).mono HBe.out.size))
      have HH0 := HS.out wi (HBh.out.trans (hbi.mono HBh.out.size))
      refine hK.out _ _ HH0 ?_
      clear hK K' HH1 hbi
      try simp only [Act.put, List.setIfInBounds_toArray, List.set_cons_zero, List.set_cons_succ]
      refine anyT_take (i := 22) (oi := { dst := some 84, op := Go.Op.pick (Go.Operand.tmp 73) (Go.Operand.tmp 83) (Go.Operand.const (Go.Value.bool false)), type := 4, pos := "law.go:62", after := #[{ on := 11, ground := Go.Ground.data }, { on := 21, ground := Go.Ground.data }], guard := none }) (v := ?_) rfl (by kernel_rfl) (by kernel_rfl) (by kernel_rfl) (by decide) (by decide) (by kernel_rfl) (by kernel_rfl) (fun _ _ _ h => h) (Or.inl ⟨by rfl, ?_⟩) HH0 inv (fun inv => ?_)
      rotate_left
      · intro w hSw
        try dsimp only at hSw
        go_simp
        try with_reducible rfl
      simp only [Act.put, List.setIfInBounds_toArray, List.set_cons_zero, List.set_cons_succ]
      refine anyT_one (i := 23) (o := { dst := some 6, op := Go.Op.assign (Go.Operand.tmp 84), type := 4, pos := "law.go:62", after := #[{ on := 22, ground := Go.Ground.data }, { on := 21, ground := Go.Ground.chain }, { on := 0, ground := Go.Ground.phase }, { on := 1, ground := Go.Ground.phase }, { on := 2, ground := Go.Ground.phase }, { on := 3, ground := Go.Ground.phase }, { on := 4, ground := Go.Ground.phase }, { on := 5, ground := Go.Ground.phase }, { on := 6, ground := Go.Ground.phase }, { on := 7, ground := Go.Ground.phase }, { on := 8, ground := Go.Ground.phase }, { on := 9, ground := Go.Ground.phase }, { on := 10, ground := Go.Ground.phase }, { on := 11, ground := Go.Ground.phase }, { on := 12, ground := Go.Ground.phase }, { on := 13, ground := Go.Ground.phase }, { on := 14, ground := Go.Ground.phase }, { on := 15, ground := Go.Ground.phase }, { on := 16, ground := Go.Ground.phase }, { on := 17, ground := Go.Ground.phase }, { on := 18, ground := Go.Ground.phase }, { on := 19, ground := Go.Ground.phase }, { on := 20, ground := Go.Ground.phase }, { on := 21, ground := Go.Ground.phase }, { on := 22, ground := Go.Ground.phase }], guard := none }) (by kernel_rfl) rfl (fun K' hK => ?_)
      go_simp
      refine hK.out _ _ (fun h => absurd h (by decide)) ?_
      clear hK K'
      try simp only [Act.put, List.setIfInBounds_toArray, List.set_cons_zero, List.set_cons_succ]
      refine anyT_done (by kernel_rfl) ?_ _
      go_wp2_with fail
      go_ret
      exact ⟨rfl, HBi.out⟩
end Go.Proofs.YtjpbhbfklkipkaaDoor
