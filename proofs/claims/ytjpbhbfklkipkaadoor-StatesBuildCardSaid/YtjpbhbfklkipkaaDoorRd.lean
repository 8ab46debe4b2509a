/- The document's rows of items: is one of them there, are two the same. -/
import Derived.Test.YtjpbhbfklkipkaaDoorSn
namespace Go.Proofs.YtjpbhbfklkipkaaDoor
open Go Go.RowKit Go.Lib
open X14 (It Less)
set_option linter.unusedVariables false
set_option linter.unusedSimpArgs false
theorem info39 : (Tryd.prog.info? 39).map (fun i => (i.zero, i.size, i.bytes)) = some (some (.agg #[.int .i64 0, .int .i64 0]), 2, 16) := by kernel_rfl
theorem stood39 : Tryd.prog.stoodInHeld 39 = false := by kernel_rfl
theorem eql39 (a b c d : Int) (w : World) : (Op.equalIn 10000 39 (.agg #[.int .i64 a, .int .i64 b]) (.agg #[.int .i64 c, .int .i64 d])).run Tryd.prog w = .ok (decide (a = c) && decide (b = d)) w := by
  have h3 : ∀ x y w, (Op.equalIn 9999 3 (.int .i64 x) (.int .i64 y)).run Tryd.prog w = .ok (x == y) w := fun x y w => eql3 9998 x y w
  have p0 := fun u v w => (part3 u v w).1
  have p1 := fun u v w => (part3 u v w).2
  show (Op.equalIn (9998 + 1 + 1) 39 _ _).run Tryd.prog w = _
  unfold Op.equalIn
  simp [run_underlying Tryd.underlying39, stood39, h3, p0, p1]
  by_cases e1 : a = c <;> by_cases e2 : b = d <;> simp [e1, e2]
/-- The place of an item that is read. -/
theorem ItemsAt.at_ {w : World} {o : Option Addr} {n c : Nat} {l : List It} (h : ItemsAt w (.slice o n c) l) {k : Nat} {x : It} (hk : l[k]? = some x) : ∃ b off, o = some ⟨b, off, none⟩ ∧ w.cell? ⟨b, off + k * 2, none⟩ = some (.int .i64 x.1) ∧ w.cell? ⟨b, off + k * 2 + 1, none⟩ = some (.int .i64 x.2) := by
  obtain ⟨o', c', e, _, hcs⟩ := h
  injection e with e1 e2 e3
  subst e1
  have hlt := (List.getElem?_eq_some_iff.1 hk).1
  obtain ⟨b, off, rfl, hq⟩ := hcs (by omega)
  have hx : l.getD k (0, 0) = x := by rw [List.getD_eq_getElem?_getD, hk]; rfl
  have := hq k hlt
  dsimp only at this
  rw [hx] at this
  exact ⟨b, off, rfl, this⟩
theorem ItemsAt.len {w : World} {v : Value} {l : List It} (h : ItemsAt w v l) : ∃ o c, v = .slice o l.length c ∧ l.length ≤ 9223372036854775807 := by
  obtain ⟨o, c, e, h1, _⟩ := h
  exact ⟨o, c, e, h1⟩
theorem it_eq (x y : It) : (decide (x.1 = y.1) && decide (x.2 = y.2)) = decide (x = y) := by
  by_cases h : x = y
  · subst h; simp
  · rw [decide_eq_false h, Bool.and_eq_false_iff, decide_eq_false_iff_not, decide_eq_false_iff_not]
    by_cases h1 : x.1 = y.1
    · exact .inr fun h2 => h (Prod.ext h1 h2)
    · exact .inl h1
set_option maxRecDepth 100000 in
set_option maxHeartbeats 4000000 in
theorem has_any {w : World} {v : Value} {l : List It} (h : ItemsAt w v l) (x : It) :
    Calls Tryd.prog 30 #[v, itV x] w fun e w' => e = .returned (.bool (decide (x ∈ l))) ∧ Below w.heap.size w w' := by
  obtain ⟨vo, vc, rfl, hvn⟩ := h.len
  obtain ⟨n, hln⟩ : ∃ n, l.length = n := ⟨_, rfl⟩
  have HLN := hid hln
  obtain ⟨W1, e1⟩ : ∃ W1, w.alloc (.cells #[.int .i64 x.1, .int .i64 x.2] 39) = W1 := ⟨_, rfl⟩
  have hb1 : Below w.heap.size w W1 := by rw [← e1]; exact (Below.refl _ _).alloc (Nat.le_refl _) _
  have n1 : W1.heap[w.heap.size]? = some (.cells #[.int .i64 x.1, .int .i64 x.2] 39 (0, 0)) := by rw [← e1]; exact new_block _ _
  have HL := hid (h.below hb1)
  have HB1 := hid hb1
  have HN1 := hid n1
  obtain ⟨r, hr⟩ : ∃ r, decide (x ∈ l) = r := ⟨_, rfl⟩
  have HR := hid hr
  have hs1 := hb1.size
  rw [hln] at HL hvn ⊢
  rw [hr]
  unfold itV
  clear h hb1 n1 hln hr
  go_enter Tryd.func30, Tryd.ntmps30
  go_wp2_with fail
  go_loopw [5] (fun t5 wr => ∃ k : Nat, k ≤ n ∧ t5 = .int .i64 (k : Int) ∧ Hid (∀ y ∈ l.take k, x ≠ y) ∧ Hid (Below W1.heap.size W1 wr)) (fun t5 _ => n - (RowKit.intOf t5).toNat)
  case atStart => exact ⟨0, Nat.zero_le _, rfl, hid (by simp), hid (Below.refl _ _)⟩
  case round =>
    obtain ⟨k, hk, rfl, HX, HB⟩ := hrel
    have hszr := HB.out.size
    by_cases hlt : k < n
    · have t1 : (k : Int) < (n : Int) := by omega
      have t2 : (0 : Int) ≤ (k : Int) := by omega
      have hkl : k < l.length := by rw [HLN.out]; exact hlt
      obtain ⟨y, hy⟩ : ∃ y, l[k]? = some y := ⟨_, List.getElem?_eq_getElem hkl⟩
      have HY := hid hy
      obtain ⟨lb, lo, rfl, q0, q1⟩ := HL.out.at_ hy
      have HQ0 : Hid (∀ w', Below wr.heap.size wr w' → w'.cell? ⟨lb, lo + k * 2, none⟩ = some (.int .i64 y.1)) := hid fun w' hC => cell_below hC (cell_below HB.out q0)
      have HQ1 : Hid (∀ w', Below wr.heap.size wr w' → w'.cell? ⟨lb, lo + k * 2 + 1, none⟩ = some (.int .i64 y.2)) := hid fun w' hC => cell_below hC (cell_below HB.out q1)
      have HQ2 : Hid (∀ w', Below wr.heap.size wr w' → w'.cell? ⟨w.heap.size, 0, none⟩ = some (.int .i64 x.1)) := hid fun w' hC => cell_below hC (cell_below HB.out (Lib.cell_of_heap HN1.out 0))
      have HQ3 : Hid (∀ w', Below wr.heap.size wr w' → w'.cell? ⟨w.heap.size, 1, none⟩ = some (.int .i64 x.2)) := hid fun w' hC => cell_below hC (cell_below HB.out (Lib.cell_of_heap HN1.out 1))
      obtain ⟨be, hbe⟩ : ∃ be, (decide (y.1 = x.1) && decide (y.2 = x.2)) = be := ⟨_, rfl⟩
      have hE : ∀ w', (Op.equalIn 10000 39 (.agg #[.int .i64 y.1, .int .i64 y.2]) (.agg #[.int .i64 x.1, .int .i64 x.2])).run Tryd.prog w' = .ok be w' := fun w' => by rw [← hbe]; exact eql39 _ _ _ _ w'
      have HBE := hid (hbe.symm.trans (it_eq y x))
      clear hbe hy q0 q1
      go_wp2_with fail
      refine wp_region_below (by kernel_rfl) (by kernel_rfl) ?_
      with_reducible refine BigFrame.wpQuiet_want (by kernel_rfl) (fun K hK => ?_)
      apply Exists.intro
      refine ⟨fun w' hC => ?_, hK _ ?_⟩
      · unfold Oper.quietAt
        go_simp
        first | with_reducible rfl | done
      clear hK K
      try simp only [Act.put, List.setIfInBounds_toArray, List.set_cons_zero, List.set_cons_succ]
      with_reducible refine BigFrame.wpQuiet_want (by kernel_rfl) (fun K hK => ?_)
      apply Exists.intro
      refine ⟨fun w' hC => ?_, hK _ ?_⟩
      · unfold Oper.quietAt
        go_simp
        first | with_reducible rfl | done
      clear hK K
      try simp only [Act.put, List.setIfInBounds_toArray, List.set_cons_zero, List.set_cons_succ]
      with_reducible refine BigFrame.wpQuiet_want (by kernel_rfl) (fun K hK => ?_)
      apply Exists.intro
      refine ⟨fun w' hC => ?_, hK _ ?_⟩
      · unfold Oper.quietAt
        go_simp
        first | with_reducible rfl | done
      clear hK K
      try simp only [Act.put, List.setIfInBounds_toArray, List.set_cons_zero, List.set_cons_succ]
      with_reducible refine BigFrame.wpQuiet_want (by kernel_rfl) (fun K hK => ?_)
      apply Exists.intro
      refine ⟨fun w' hC => ?_, hK _ ?_⟩
      · have f0' := HQ0.out w' hC
        have f1' := HQ1.out w' hC
        have f2' := HQ2.out w' hC
        have f3' := HQ3.out w' hC
        unfold Oper.quietAt
        go_simp
        first | with_reducible rfl | done
      clear hK K
      try simp only [Act.put, List.setIfInBounds_toArray, List.set_cons_zero, List.set_cons_succ]
      with_reducible refine BigFrame.wpQuiet_want (by kernel_rfl) (fun K hK => ?_)
      apply Exists.intro
      refine ⟨fun w' hC => ?_, hK _ ?_⟩
      · have f0' := HQ0.out w' hC
        have f1' := HQ1.out w' hC
        have f2' := HQ2.out w' hC
        have f3' := HQ3.out w' hC
        unfold Oper.quietAt
        go_simp
        first | with_reducible rfl | done
      clear hK K
      try simp only [Act.put, List.setIfInBounds_toArray, List.set_cons_zero, List.set_cons_succ]
      with_reducible refine BigFrame.wpQuiet_want (by kernel_rfl) (fun K hK => ?_)
      apply Exists.intro
      refine ⟨fun w' hC => ?_, hK _ ?_⟩
      · unfold Oper.quietAt
        go_simp
        first | with_reducible rfl | done
      clear hK K
      try simp only [Act.put, List.setIfInBounds_toArray, List.set_cons_zero, List.set_cons_succ]
      refine wpQuiet_nil ?_
      intro w6 hb6
      have HB6 := hid (HB.out.trans (hb6.mono hszr))
      clear hb6
      cases be
      · have HX2 := hid (show ∀ z ∈ l.take (k + 1), x ≠ z from fun z hz => by
          rw [List.take_add_one, HY.out] at hz
          rcases List.mem_append.1 hz with hz | hz
          · exact HX.out z hz
          · have e : z = y := by simpa using hz
            rw [e]
            exact fun e' => of_decide_eq_false HBE.out.symm e'.symm)
        go_wp2_with fail
        refine ⟨⟨k + 1, by omega, rfl, HX2, HB6⟩, ?_⟩
        show n - ((k : Int) + 1).toNat < n - ((k : Int)).toNat
        omega
      · have hyx : y = x := of_decide_eq_true HBE.out.symm
        obtain rfl : true = r := by
          rw [← HR.out]
          exact (decide_eq_true (by rw [← hyx]; exact List.mem_of_getElem? HY.out)).symm
        clear hyx
        go_wp2_with fail
        go_ret
        exact ⟨rfl, HB1.out.trans (HB6.out.mono hs1)⟩
    · have t1 : ¬ (k : Int) < (n : Int) := by omega
      have hkn : k = n := by omega
      obtain rfl : false = r := by
        rw [← HR.out]
        refine (decide_eq_false fun hm => HX.out x ?_ rfl).symm
        rw [hkn, ← HLN.out, List.take_length]
        exact hm
      go_wp2_with fail
      go_ret
      exact ⟨rfl, HB1.out.trans (HB.out.mono hs1)⟩
set_option maxRecDepth 100000 in
set_option maxHeartbeats 4000000 in
theorem RRow_any {w : World} {u v : Value} {l m : List It} (hu : ItemsAt w u l) (hv : ItemsAt w v m) :
    Calls Tryd.prog 14 #[u, v] w fun e w' => e = .returned (.bool (decide (l = m))) ∧ Below w.heap.size w w' := by
  obtain ⟨uo, uc, rfl, hun⟩ := hu.len
  obtain ⟨vo, vc, rfl, hvn⟩ := hv.len
  obtain ⟨r, hr⟩ : ∃ r, decide (l = m) = r := ⟨_, rfl⟩
  have HR := hid hr
  rw [hr]
  obtain ⟨n, hln⟩ : ∃ n, l.length = n := ⟨_, rfl⟩
  obtain ⟨n', hmn⟩ : ∃ n', m.length = n' := ⟨_, rfl⟩
  have HLN := hid hln
  have HMN := hid hmn
  have HU := hid hu
  have HV := hid hv
  rw [hln] at HU hun ⊢
  rw [hmn] at HV hvn ⊢
  clear hu hv hln hmn hr
  by_cases hnn : n = n'
  case neg =>
    obtain rfl : false = r := by
      rw [← HR.out]
      refine (decide_eq_false fun e => hnn ?_).symm
      rw [← HLN.out, ← HMN.out, e]
    have t0 : ((n : Int) == (n' : Int)) = false := by rw [beq_eq_false_iff_ne]; omega
    have t1 : ¬ (n : Int) = (n' : Int) := by omega
    go_enter Tryd.func14, Tryd.ntmps14
    go_wp2_with fail
    go_ret
    exact ⟨rfl, Below.refl _ _⟩
  subst hnn
  go_enter Tryd.func14, Tryd.ntmps14
  go_wp2_with fail
  go_loopw [5] (fun t5 wr => ∃ k : Nat, k ≤ n ∧ t5 = .int .i64 (k : Int) ∧ Hid (l.take k = m.take k) ∧ Hid (Below w.heap.size w wr)) (fun t5 _ => n - (RowKit.intOf t5).toNat)
  case atStart => exact ⟨0, Nat.zero_le _, rfl, hid (by simp), hid (Below.refl _ _)⟩
  case round =>
    obtain ⟨k, hk, rfl, HX, HB⟩ := hrel
    have hszr := HB.out.size
    by_cases hlt : k < n
    · have t1 : (k : Int) < (n : Int) := by omega
      have t2 : (0 : Int) ≤ (k : Int) := by omega
      obtain ⟨x, hx⟩ : ∃ x, l[k]? = some x := ⟨_, List.getElem?_eq_getElem (by rw [HLN.out]; exact hlt)⟩
      obtain ⟨y, hy⟩ : ∃ y, m[k]? = some y := ⟨_, List.getElem?_eq_getElem (by rw [HMN.out]; exact hlt)⟩
      have HXX := hid hx
      have HYY := hid hy
      obtain ⟨lb, lo, rfl, p0, p1⟩ := HU.out.at_ hx
      obtain ⟨mb, mo, rfl, q0, q1⟩ := HV.out.at_ hy
      have HQ0 : Hid (∀ w', Below wr.heap.size wr w' → w'.cell? ⟨lb, lo + k * 2, none⟩ = some (.int .i64 x.1)) := hid fun w' hC => cell_below hC (cell_below HB.out p0)
      have HQ1 : Hid (∀ w', Below wr.heap.size wr w' → w'.cell? ⟨lb, lo + k * 2 + 1, none⟩ = some (.int .i64 x.2)) := hid fun w' hC => cell_below hC (cell_below HB.out p1)
      have HQ2 : Hid (∀ w', Below wr.heap.size wr w' → w'.cell? ⟨mb, mo + k * 2, none⟩ = some (.int .i64 y.1)) := hid fun w' hC => cell_below hC (cell_below HB.out q0)
      have HQ3 : Hid (∀ w', Below wr.heap.size wr w' → w'.cell? ⟨mb, mo + k * 2 + 1, none⟩ = some (.int .i64 y.2)) := hid fun w' hC => cell_below hC (cell_below HB.out q1)
      obtain ⟨be, hbe⟩ : ∃ be, (decide (x.1 = y.1) && decide (x.2 = y.2)) = be := ⟨_, rfl⟩
      have hE : ∀ w', (Op.equalIn 10000 39 (.agg #[.int .i64 x.1, .int .i64 x.2]) (.agg #[.int .i64 y.1, .int .i64 y.2])).run Tryd.prog w' = .ok be w' := fun w' => by rw [← hbe]; exact eql39 _ _ _ _ w'
      have HBE := hid (hbe.symm.trans (it_eq x y))
      clear hbe hx hy p0 p1 q0 q1
      cases be
      · obtain rfl : false = r := by
          rw [← HR.out]
          refine (decide_eq_false fun e => ?_).symm
          have h1 := HXX.out
          rw [e, HYY.out] at h1
          injection h1 with h1
          exact of_decide_eq_false HBE.out.symm h1.symm
        go_wp2_with fail
        refine wp_region_below (by kernel_rfl) (by kernel_rfl) ?_
        with_reducible refine BigFrame.wpQuiet_want (by kernel_rfl) (fun K hK => ?_)
        apply Exists.intro
        refine ⟨fun w' hC => ?_, hK _ ?_⟩
        · unfold Oper.quietAt
          go_simp
          first | with_reducible rfl | done
        clear hK K
        try simp only [Act.put, List.setIfInBounds_toArray, List.set_cons_zero, List.set_cons_succ]
        with_reducible refine BigFrame.wpQuiet_want (by kernel_rfl) (fun K hK => ?_)
        apply Exists.intro
        refine ⟨fun w' hC => ?_, hK _ ?_⟩
        · unfold Oper.quietAt
          go_simp
          first | with_reducible rfl | done
        clear hK K
        try simp only [Act.put, List.setIfInBounds_toArray, List.set_cons_zero, List.set_cons_succ]
        with_reducible refine BigFrame.wpQuiet_want (by kernel_rfl) (fun K hK => ?_)
        apply Exists.intro
        refine ⟨fun w' hC => ?_, hK _ ?_⟩
        · unfold Oper.quietAt
          go_simp
          first | with_reducible rfl | done
        clear hK K
        try simp only [Act.put, List.setIfInBounds_toArray, List.set_cons_zero, List.set_cons_succ]
        with_reducible refine BigFrame.wpQuiet_want (by kernel_rfl) (fun K hK => ?_)
        apply Exists.intro
        refine ⟨fun w' hC => ?_, hK _ ?_⟩
        · have f0' := HQ0.out w' hC
          have f1' := HQ1.out w' hC
          have f2' := HQ2.out w' hC
          have f3' := HQ3.out w' hC
          unfold Oper.quietAt
          go_simp
          first | with_reducible rfl | done
        clear hK K
        try simp only [Act.put, List.setIfInBounds_toArray, List.set_cons_zero, List.set_cons_succ]
        with_reducible refine BigFrame.wpQuiet_want (by kernel_rfl) (fun K hK => ?_)
        apply Exists.intro
        refine ⟨fun w' hC => ?_, hK _ ?_⟩
        · unfold Oper.quietAt
          go_simp
          first | with_reducible rfl | done
        clear hK K
        try simp only [Act.put, List.setIfInBounds_toArray, List.set_cons_zero, List.set_cons_succ]
        with_reducible refine BigFrame.wpQuiet_want (by kernel_rfl) (fun K hK => ?_)
        apply Exists.intro
        refine ⟨fun w' hC => ?_, hK _ ?_⟩
        · unfold Oper.quietAt
          go_simp
          first | with_reducible rfl | done
        clear hK K
        try simp only [Act.put, List.setIfInBounds_toArray, List.set_cons_zero, List.set_cons_succ]
        with_reducible refine BigFrame.wpQuiet_want (by kernel_rfl) (fun K hK => ?_)
        apply Exists.intro
        refine ⟨fun w' hC => ?_, hK _ ?_⟩
        · unfold Oper.quietAt
          go_simp
          first | with_reducible rfl | done
        clear hK K
        try simp only [Act.put, List.setIfInBounds_toArray, List.set_cons_zero, List.set_cons_succ]
        with_reducible refine BigFrame.wpQuiet_want (by kernel_rfl) (fun K hK => ?_)
        apply Exists.intro
        refine ⟨fun w' hC => ?_, hK _ ?_⟩
        · have f0' := HQ0.out w' hC
          have f1' := HQ1.out w' hC
          have f2' := HQ2.out w' hC
          have f3' := HQ3.out w' hC
          unfold Oper.quietAt
          go_simp
          first | with_reducible rfl | done
        clear hK K
        try simp only [Act.put, List.setIfInBounds_toArray, List.set_cons_zero, List.set_cons_succ]
        with_reducible refine BigFrame.wpQuiet_want (by kernel_rfl) (fun K hK => ?_)
        apply Exists.intro
        refine ⟨fun w' hC => ?_, hK _ ?_⟩
        · unfold Oper.quietAt
          go_simp
          first | with_reducible rfl | done
        clear hK K
        try simp only [Act.put, List.setIfInBounds_toArray, List.set_cons_zero, List.set_cons_succ]
        refine wpQuiet_nil ?_
        intro w6 hb6
        have HB6 := hid (HB.out.trans (hb6.mono hszr))
        clear hb6
        go_wp2_with fail
        go_ret
        exact ⟨rfl, HB6.out⟩
      · have HX2 := hid (show l.take (k + 1) = m.take (k + 1) from by
          rw [List.take_add_one, List.take_add_one, HXX.out, HYY.out, HX.out, of_decide_eq_true HBE.out.symm])
        go_wp2_with fail
        refine wp_region_below (by kernel_rfl) (by kernel_rfl) ?_
        with_reducible refine BigFrame.wpQuiet_want (by kernel_rfl) (fun K hK => ?_)
        apply Exists.intro
        refine ⟨fun w' hC => ?_, hK _ ?_⟩
        · unfold Oper.quietAt
          go_simp
          first | with_reducible rfl | done
        clear hK K
        try simp only [Act.put, List.setIfInBounds_toArray, List.set_cons_zero, List.set_cons_succ]
        with_reducible refine BigFrame.wpQuiet_want (by kernel_rfl) (fun K hK => ?_)
        apply Exists.intro
        refine ⟨fun w' hC => ?_, hK _ ?_⟩
        · unfold Oper.quietAt
          go_simp
          first | with_reducible rfl | done
        clear hK K
        try simp only [Act.put, List.setIfInBounds_toArray, List.set_cons_zero, List.set_cons_succ]
        with_reducible refine BigFrame.wpQuiet_want (by kernel_rfl) (fun K hK => ?_)
        apply Exists.intro
        refine ⟨fun w' hC => ?_, hK _ ?_⟩
        · unfold Oper.quietAt
          go_simp
          first | with_reducible rfl | done
        clear hK K
        try simp only [Act.put, List.setIfInBounds_toArray, List.set_cons_zero, List.set_cons_succ]
        with_reducible refine BigFrame.wpQuiet_want (by kernel_rfl) (fun K hK => ?_)
        apply Exists.intro
        refine ⟨fun w' hC => ?_, hK _ ?_⟩
        · have f0' := HQ0.out w' hC
          have f1' := HQ1.out w' hC
          have f2' := HQ2.out w' hC
          have f3' := HQ3.out w' hC
          unfold Oper.quietAt
          go_simp
          first | with_reducible rfl | done
        clear hK K
        try simp only [Act.put, List.setIfInBounds_toArray, List.set_cons_zero, List.set_cons_succ]
        with_reducible refine BigFrame.wpQuiet_want (by kernel_rfl) (fun K hK => ?_)
        apply Exists.intro
        refine ⟨fun w' hC => ?_, hK _ ?_⟩
        · unfold Oper.quietAt
          go_simp
          first | with_reducible rfl | done
        clear hK K
        try simp only [Act.put, List.setIfInBounds_toArray, List.set_cons_zero, List.set_cons_succ]
        with_reducible refine BigFrame.wpQuiet_want (by kernel_rfl) (fun K hK => ?_)
        apply Exists.intro
        refine ⟨fun w' hC => ?_, hK _ ?_⟩
        · unfold Oper.quietAt
          go_simp
          first | with_reducible rfl | done
        clear hK K
        try simp only [Act.put, List.setIfInBounds_toArray, List.set_cons_zero, List.set_cons_succ]
        with_reducible refine BigFrame.wpQuiet_want (by kernel_rfl) (fun K hK => ?_)
        apply Exists.intro
        refine ⟨fun w' hC => ?_, hK _ ?_⟩
        · unfold Oper.quietAt
          go_simp
          first | with_reducible rfl | done
        clear hK K
        try simp only [Act.put, List.setIfInBounds_toArray, List.set_cons_zero, List.set_cons_succ]
        with_reducible refine BigFrame.wpQuiet_want (by kernel_rfl) (fun K hK => ?_)
        apply Exists.intro
        refine ⟨fun w' hC => ?_, hK _ ?_⟩
        · have f0' := HQ0.out w' hC
          have f1' := HQ1.out w' hC
          have f2' := HQ2.out w' hC
          have f3' := HQ3.out w' hC
          unfold Oper.quietAt
          go_simp
          first | with_reducible rfl | done
        clear hK K
        try simp only [Act.put, List.setIfInBounds_toArray, List.set_cons_zero, List.set_cons_succ]
        with_reducible refine BigFrame.wpQuiet_want (by kernel_rfl) (fun K hK => ?_)
        apply Exists.intro
        refine ⟨fun w' hC => ?_, hK _ ?_⟩
        · unfold Oper.quietAt
          go_simp
          first | with_reducible rfl | done
        clear hK K
        try simp only [Act.put, List.setIfInBounds_toArray, List.set_cons_zero, List.set_cons_succ]
        refine wpQuiet_nil ?_
        intro w6 hb6
        have HB6 := hid (HB.out.trans (hb6.mono hszr))
        clear hb6
        go_wp2_with fail
        refine ⟨⟨k + 1, by omega, rfl, HX2, HB6⟩, ?_⟩
        show n - ((k : Int) + 1).toNat < n - ((k : Int)).toNat
        omega
    · have t1 : ¬ (k : Int) < (n : Int) := by omega
      have hkn : k = n := by omega
      obtain rfl : true = r := by
        rw [← HR.out]
        refine (decide_eq_true ?_).symm
        have h1 := HX.out
        rw [hkn] at h1
        rw [show l = l.take n from by rw [← HLN.out, List.take_length], h1, ← HMN.out, List.take_length]
      go_wp2_with fail
      go_ret
      exact ⟨rfl, HB.out⟩
end Go.Proofs.YtjpbhbfklkipkaaDoor
