/- The document's Longest. -/
import Derived.Test.YtochckefnjobhaaGreatDoorBc
namespace Go.Proofs.YtochckefnjobhaaGreatDoor
open Go Go.RowKit Go.Lib
open X5 (Aut)
open X7 (M64)
set_option linter.unusedVariables false
set_option linter.unusedSimpArgs false
theorem list_cut (x : ByteArray) (i j : Nat) : (x.extract i j).data.toList = (x.data.toList.take j).drop i := by
 rw [ByteArray.data_extract, Array.toList_extract, List.extract_eq_take_drop, List.drop_take]
theorem run_lt {w : World} {D : Aut} {dd : Array Value} (hL : Lies D dd w) (t : List UInt8) : X5.runX D t < M64 := by
 unfold X5.runX
 split
 ·decide
 ·rw [List.getD_eq_getElem?_getD]
  cases e : D.tags[(X5.goX D t 0).toNat]? with
  | none => decide
  | some x =>
   obtain ⟨nv, tv, _, hda⟩ := hL
   obtain ⟨_, _, _, _, _, _, h9⟩ := tagsAt_get hda.tags e
   exact h9
set_option maxRecDepth 100000 in
set_option maxHeartbeats 8000000 in
theorem longestR_any {D : Aut} {dd : Array Value} (w : World) (hL : Lies D dd w) (s : ByteArray) (hs : s.size ≤ 1000000) (z : Int) (hz : (Lit.int .i64 z).wf = true) (may : Nat) (hmay : may < M64) :
  Calls Tryz.prog 29 #[.agg dd, .string s, .int .i64 z, .int .u64 (may : Int)] w fun e w' => e = .returned (.agg #[.int .u64 ((X7.lgX D (LL s) z may).1 : Int), .int .i64 (X7.lgX D (LL s) z may).2]) ∧ Below w.heap.size w w' := by
 have hzr : -9223372036854775808 ≤ z ∧ z ≤ 9223372036854775807 := by simpa [Lit.wf, IntKind.min, IntKind.max, IntKind.signed, IntKind.bits] using hz
 obtain ⟨w1, e1⟩ : ∃ w1, w.alloc (.cells dd 34) = w1 := ⟨_, rfl⟩
 obtain ⟨w2, e2⟩ : ∃ w2, w1.alloc (.cells #[.int .u64 0, .int .i64 0] 63) = w2 := ⟨_, rfl⟩
 obtain ⟨w3, e3⟩ : ∃ w3, w2.alloc (.cells #[.int .u64 0, .int .i64 z] 63) = w3 := ⟨_, rfl⟩
 have hb1 : Below w.heap.size w w1 := by rw [← e1]; exact (Below.refl _ _).alloc (Nat.le_refl _) _
 have hb2 : Below w1.heap.size w1 w2 := by rw [← e2]; exact (Below.refl _ _).alloc (Nat.le_refl _) _
 have hb3 : Below w2.heap.size w2 w3 := by rw [← e3]; exact (Below.refl _ _).alloc (Nat.le_refl _) _
 have s1 : w1.heap.size = w.heap.size + 1 := by rw [← e1]; simp
 have s2 : w2.heap.size = w.heap.size + 2 := by rw [← e2]; simp [s1]
 have s3 : w3.heap.size = w.heap.size + 3 := by rw [← e3]; simp [s2]
 have n1 : w1.heap[w.heap.size]? = some (.cells dd 34 (0, 0)) := by rw [← e1]; exact new_block _ _
 have n2 : w2.heap[w1.heap.size]? = some (.cells #[.int .u64 0, .int .i64 0] 63 (0, 0)) := by rw [← e2]; exact new_block _ _
 have n3 : w3.heap[w2.heap.size]? = some (.cells #[.int .u64 0, .int .i64 z] 63 (0, 0)) := by rw [← e3]; exact new_block _ _
 have hB := (hb1.trans (hb2.mono (by omega))).trans (hb3.mono (by omega))
 have m1 : w3.heap[w.heap.size]? = some (.cells dd 34 (0, 0)) := (hb3.block _ (by omega)).trans ((hb2.block _ (by omega)).trans n1)
 have m2 : w3.heap[w1.heap.size]? = some (.cells #[.int .u64 0, .int .i64 0] 63 (0, 0)) := (hb3.block _ (by omega)).trans n2
 have HB := hid hB
 have HM1 := hid m1
 have HM2 := hid m2
 have HM3 := hid n3
 have HSZ := hid hL.sz
 have HL := hid hL
 have hls : (LL s).length = s.size := Array.length_toList
 have lt1 : w.heap.size < w3.heap.size := by omega
 have lt2 : w1.heap.size < w3.heap.size := by omega
 have lt3 : w2.heap.size < w3.heap.size := by omega
 have ne1 : w.heap.size ≠ w2.heap.size := by omega
 have ne2 : w1.heap.size ≠ w2.heap.size := by omega
 have le1 : w.heap.size ≤ w2.heap.size := by omega
 have le2 : w.heap.size ≤ w3.heap.size := by omega
 have le3 : w.heap.size ≤ w1.heap.size := by omega
 have HLS := hid hls
 clear hb1 hb2 hb3 s1 s2 s3 n1 n2 n3 m1 m2 hB hL hz hls
 by_cases hz0 : z < 0
 ·have g0 : ¬ 0 ≤ z := by omega
  have g1 : decide (0 ≤ z) = false := decide_eq_false g0
  have HX0 := hid (show X7.lgX D (LL s) z may = (0, z) from by unfold X7.lgX; rw [if_pos (.inl hz0)])
  go_enter Tryz.func29, Tryz.ntmps29
  go_wp2_with fail
  clear e1 e2 e3
  go_loopw [10] (fun t10 wr => t10 = .int .i64 (z + 1) ∧ w3 = wr) (fun _ _ => 0)
  case atStart => exact ⟨rfl, by first | trivial | rfl⟩
  case round =>
   obtain ⟨rfl, hw⟩ := hrel
   subst hw
   have h3 := HM3.out
   have h2 := HM2.out
   have hbl := HB.out
   have c30 : World.cell? w3 ⟨w2.heap.size, 0, none⟩ = some (.int .u64 0) := Lib.cell_of_heap h3 0
   have c31 : World.cell? w3 ⟨w2.heap.size, 1, none⟩ = some (.int .i64 z) := Lib.cell_of_heap h3 1
   have c20 : World.cell? w3 ⟨w1.heap.size, 0, none⟩ = some (.int .u64 0) := Lib.cell_of_heap h2 0
   have c21 : World.cell? w3 ⟨w1.heap.size, 1, none⟩ = some (.int .i64 0) := Lib.cell_of_heap h2 1
   have f20 := Lib.frozen_of_heap h2 0
   have f21 := Lib.frozen_of_heap h2 1
   have hset := set_two h2 (.int .u64 0) (.int .i64 z)
   have HSET := hid (And.intro hset.1 (KeptX.bel (m := w.heap.size) (b := w1.heap.size) hset.2 hbl (Nat.le_refl _) le3))
   clear hset
   go_wp2_with fail
   refine bodyPost_ret (results_cell_row rfl _ _ w1.heap.size 63 _ (0, 0) _ rfl HSET.out.1 Tryz.underlying63 rfl (by kernel_rfl)) rfl ?_
   refine ⟨?_, HSET.out.2⟩
   rw [HX0.out]; rfl
 by_cases hz1 : (s.size : Int) < z
 ·have g0 : 0 ≤ z := by omega
  have g1 : decide (0 ≤ z) = true := decide_eq_true g0
  by_cases hmx : z = 9223372036854775807
  ·subst hmx
   have HX0 := hid (show X7.lgX D (LL s) 9223372036854775807 may = (0, 9223372036854775807) from by unfold X7.lgX; rw [if_pos (.inr (by rw [HLS.out]; exact hz1))])
   go_enter Tryz.func29, Tryz.ntmps29
   go_wp2_with fail
   clear e1 e2 e3
   go_loopw [10] (fun t10 wr => t10 = .int .i64 (-9223372036854775808) ∧ w3 = wr) (fun _ _ => 0)
   case atStart => exact ⟨congrArg (Value.int .i64) (by decide +kernel), by first | exact True.intro | with_reducible exact rfl | (trace_state; trivial)⟩
   case round =>
    obtain ⟨rfl, hw⟩ := hrel
    subst hw
    have h3 := HM3.out
    have h2 := HM2.out
    have hbl := HB.out
    have c30 : World.cell? w3 ⟨w2.heap.size, 0, none⟩ = some (.int .u64 0) := Lib.cell_of_heap h3 0
    have c31 : World.cell? w3 ⟨w2.heap.size, 1, none⟩ = some (.int .i64 9223372036854775807) := Lib.cell_of_heap h3 1
    have c20 : World.cell? w3 ⟨w1.heap.size, 0, none⟩ = some (.int .u64 0) := Lib.cell_of_heap h2 0
    have c21 : World.cell? w3 ⟨w1.heap.size, 1, none⟩ = some (.int .i64 0) := Lib.cell_of_heap h2 1
    have f20 := Lib.frozen_of_heap h2 0
    have f21 := Lib.frozen_of_heap h2 1
    have hset := set_two h2 (.int .u64 0) (.int .i64 9223372036854775807)
    have HSET := hid (And.intro hset.1 (KeptX.bel (m := w.heap.size) (b := w1.heap.size) hset.2 hbl (Nat.le_refl _) le3))
    clear hset
    go_wp2_with fail
    refine bodyPost_ret (results_cell_row rfl _ _ w1.heap.size 63 _ (0, 0) _ rfl HSET.out.1 Tryz.underlying63 rfl (by kernel_rfl)) rfl ?_
    refine ⟨?_, HSET.out.2⟩
    rw [HX0.out]; rfl
  ·have g2 : ¬ z + 1 ≤ (s.size : Int) := by omega
   have g3 : decide (z + 1 ≤ (s.size : Int)) = false := decide_eq_false g2
   have HX0 := hid (show X7.lgX D (LL s) z may = (0, z) from by unfold X7.lgX; rw [if_pos (.inr (by rw [HLS.out]; exact hz1))])
   go_enter Tryz.func29, Tryz.ntmps29
   go_wp2_with fail
   clear e1 e2 e3
   go_loopw [10] (fun t10 wr => t10 = .int .i64 (z + 1) ∧ w3 = wr) (fun _ _ => 0)
   case atStart => exact ⟨rfl, by first | trivial | rfl⟩
   case round =>
    obtain ⟨rfl, hw⟩ := hrel
    subst hw
    have h3 := HM3.out
    have h2 := HM2.out
    have hbl := HB.out
    have c30 : World.cell? w3 ⟨w2.heap.size, 0, none⟩ = some (.int .u64 0) := Lib.cell_of_heap h3 0
    have c31 : World.cell? w3 ⟨w2.heap.size, 1, none⟩ = some (.int .i64 z) := Lib.cell_of_heap h3 1
    have c20 : World.cell? w3 ⟨w1.heap.size, 0, none⟩ = some (.int .u64 0) := Lib.cell_of_heap h2 0
    have c21 : World.cell? w3 ⟨w1.heap.size, 1, none⟩ = some (.int .i64 0) := Lib.cell_of_heap h2 1
    have f20 := Lib.frozen_of_heap h2 0
    have f21 := Lib.frozen_of_heap h2 1
    have hset := set_two h2 (.int .u64 0) (.int .i64 z)
    have HSET := hid (And.intro hset.1 (KeptX.bel (m := w.heap.size) (b := w1.heap.size) hset.2 hbl (Nat.le_refl _) le3))
    clear hset
    go_wp2_with fail
    refine bodyPost_ret (results_cell_row rfl _ _ w1.heap.size 63 _ (0, 0) _ rfl HSET.out.1 Tryz.underlying63 rfl (by kernel_rfl)) rfl ?_
    refine ⟨?_, HSET.out.2⟩
    rw [HX0.out]; rfl
 obtain ⟨a, rfl⟩ : ∃ a : Nat, z = (a : Int) := ⟨z.toNat, by omega⟩
 have hlg := hid (show X7.lgX D (LL s) (a : Int) may = ((X7.lastX D (LL s) a may (s.size - a)).1, ((X7.lastX D (LL s) a may (s.size - a)).2 : Int)) from by
  unfold X7.lgX
  rw [HLS.out, if_neg (by omega), Int.toNat_natCast])
 have HI0 : Hid (w3.heap[w2.heap.size]? = some (.cells #[.int .u64 (((X7.lastX D (LL s) a may 0).1 : Nat) : Int), .int .i64 (((X7.lastX D (LL s) a may 0).2 : Nat) : Int)] 63 (0, 0)) ∧ KeptX w3.heap.size w2.heap.size w3 w3) := hid ⟨HM3.out, KeptX.refl _ _ _⟩
 have g0 : (0 : Int) ≤ (a : Int) := by omega
 have ha : a ≤ s.size := by omega
 go_enter Tryz.func29, Tryz.ntmps29
 go_wp2_with fail
 clear e1 e2 e3
 go_loopw [10] (fun t10 wr => ∃ j : Nat, j ≤ s.size - a ∧ t10 = .int .i64 ((a + j + 1 : Nat) : Int) ∧ Hid (wr.heap[w2.heap.size]? = some (.cells #[.int .u64 (((X7.lastX D (LL s) a may j).1 : Nat) : Int), .int .i64 (((X7.lastX D (LL s) a may j).2 : Nat) : Int)] 63 (0, 0)) ∧ KeptX w3.heap.size w2.heap.size w3 wr)) (fun t10 _ => s.size + 1 - (RowKit.intOf t10).toNat)
 case atStart => exact ⟨0, Nat.zero_le _, rfl, HI0⟩
 case round =>
  obtain ⟨j, hj, rfl, HI⟩ := hrel
  have HXr := hid ((HI.out.2.block _ lt1 ne1).trans HM1.out)
  have HBr := hid (HI.out.2.bel HB.out le2 le1)
  have HLr := hid (HL.out.below HBr.out)
  have hle := HI.out.2.size
  have hin := HI.out.1
  have hstep : X7.lastX D (LL s) a may (j + 1) = if X7.fX D (LL s) a may (j + 1) ≠ 0 then (X7.fX D (LL s) a may (j + 1), a + j + 1) else X7.lastX D (LL s) a may j := rfl
  have HSTEP := hid hstep
  clear hstep
  obtain ⟨k, hk⟩ : ∃ k, a + j + 1 = k := ⟨_, rfl⟩
  simp only [hk]
  have g4 : (a : Int) < (k : Int) := by omega
  have g5 : decide ((a : Int) < (k : Int)) = true := decide_eq_true g4
  have g6 : decide (a < k) = true := decide_eq_true (by omega)
  by_cases hlt : k ≤ s.size
  ·have h1 : (k : Int) ≤ (s.size : Int) := by omega
   have h2 : decide ((k : Int) ≤ (s.size : Int)) = true := decide_eq_true h1
   have h3 : (a : Int) ≤ (k : Int) := by omega
   have h4 : decide (k ≤ s.size) = true := decide_eq_true hlt
   have hcut : LL (s.extract a k) = ((LL s).drop a).take (j + 1) := by
    unfold LL
    rw [list_cut, List.drop_take, show k - a = j + 1 by omega]
   obtain ⟨rr, hrr⟩ : ∃ rr, X5.runX D (((LL s).drop a).take (j + 1)) = rr := ⟨_, rfl⟩
   have hrl : rr < M64 := by rw [← hrr]; exact run_lt HL.out _
   have hex : (s.extract a k).size ≤ 1000000 := by rw [ByteArray.size_extract]; omega
   have KR : Hid (∀ w', Below wr.heap.size wr w' → Calls Tryz.prog 25 #[.agg dd, .string (s.extract a k)] w' fun e w'' => e = .returned (.int .u64 (rr : Int)) ∧ Below w'.heap.size w' w'') := hid fun w' hC => by
    have := runR_any (HLr.out.below hC) (s.extract a k) hex
    rw [hcut, hrr] at this
    exact this
   have KM : Hid (∀ w', Below wr.heap.size wr w' → Calls Tryz.prog 59 #[.int .u64 (rr : Int), .int .u64 (may : Int)] w' fun e w'' => e = .returned (.int .u64 ((rr &&& may : Nat) : Int)) ∧ Below w'.heap.size w' w'') := hid fun w' hC => B1.RMeet_any rr may hrl hmay w'
   have HFX := hid (show X7.fX D (LL s) a may (j + 1) = rr &&& may from by unfold X7.fX; rw [hrr])
   clear hcut hrr hrl hex
   obtain ⟨mm, hmm⟩ : ∃ mm, rr &&& may = mm := ⟨_, rfl⟩
   rw [hmm] at KM HFX
   clear hmm
   have HIN := hid hin
   clear hin
   go_wp2_with fail
   refine wp_region_below (by kernel_rfl) (by kernel_rfl) ?_
   repeat (first
             | (refine BigFrame.wpQuiet_skip (by rfl) ?_; try simp only [Act.put, List.setIfInBounds_toArray, List.set_cons_zero, List.set_cons_succ])
             | (refine BigFrame.wpQuiet_want (by rfl) (fun K hK => ?_)
                apply Exists.intro
                refine ⟨fun w' hC => ?_, hK _ ?_⟩
                · first
                   | exact quiet_load34 (.tmp 4) rfl w.heap.size rfl dd hC HXr.out HSZ.out.1
                   | (unfold Oper.quietAt
                      go_simp
                      first
                        | with_reducible rfl
                        | done
                        | with_reducible exact below_call hC (Nat.le_refl _) (KR.out w' hC)
                        | with_reducible exact below_call hC (Nat.le_refl _) (KM.out w' hC))
                clear hK K
                try simp only [Act.put, List.setIfInBounds_toArray, List.set_cons_zero, List.set_cons_succ]))
   refine wpQuiet_nil ?_
   intro w5 hb5
   have hle5 := hb5.size
   have hi5 := (hb5.block _ (Array.getElem?_eq_some_iff.1 HIN.out).1).trans HIN.out
   have HK5 := hid (HI.out.2.below hle hb5)
   have HI5 := hid hi5
   obtain ⟨u1, hu1⟩ : ∃ u1 : Int, (((X7.lastX D (LL s) a may j).1 : Nat) : Int) = u1 := ⟨_, rfl⟩
   obtain ⟨u2, hu2⟩ : ∃ u2 : Int, (((X7.lastX D (LL s) a may j).2 : Nat) : Int) = u2 := ⟨_, rfl⟩
   rw [hu1, hu2] at hi5
   have c30 : w5.cell? ⟨w2.heap.size, 0, none⟩ = some (.int .u64 u1) := Lib.cell_of_heap hi5 0
   have c31 : w5.cell? ⟨w2.heap.size, 1, none⟩ = some (.int .i64 u2) := Lib.cell_of_heap hi5 1
   have f30 := Lib.frozen_of_heap hi5 0
   have f31 := Lib.frozen_of_heap hi5 1
   have HU5 := hid hi5
   clear hb5 hi5 KR KM hu1 hu2
   by_cases hm0 : mm = 0
   ·subst hm0
    go_wp2_with fail
    refine ⟨⟨j + 1, by omega, by show Value.int .i64 ((k : Int) + 1) = _; rw [show ((a + (j + 1) + 1 : Nat) : Int) = (k : Int) + 1 by omega], hid ⟨?_, HK5.out⟩⟩, ?_⟩
    ·rw [HSTEP.out, HFX.out, if_neg (by decide)]
     exact HI5.out
    ·show s.size + 1 - ((k : Int) + 1).toNat < s.size + 1 - ((k : Int)).toNat
     omega
   ·have t0 : ((mm : Int) != 0) = true := by simp [hm0]
    have t1 : ((mm : Int) == 0) = false := by simp [hm0]
    go_wp2_with fail
    have hset := set_two HU5.out (.int .u64 (mm : Int)) (.int .i64 (k : Int))
    refine ⟨⟨j + 1, by omega, by show Value.int .i64 ((k : Int) + 1) = _; rw [show ((a + (j + 1) + 1 : Nat) : Int) = (k : Int) + 1 by omega], hid ⟨?_, HK5.out.trans hset.2⟩⟩, ?_⟩
    ·rw [HSTEP.out, HFX.out, if_pos hm0, hk]
     exact hset.1
    ·show s.size + 1 - ((k : Int) + 1).toNat < s.size + 1 - ((k : Int)).toNat
     omega
  ·have h1 : ¬ (k : Int) ≤ (s.size : Int) := by omega
   have h2 : decide ((k : Int) ≤ (s.size : Int)) = false := decide_eq_false h1
   have h4 : decide (k ≤ s.size) = false := decide_eq_false hlt
   have hjj : j = s.size - a := by omega
   subst hjj
   have hn2 := (HI.out.2.block _ lt2 ne2).trans HM2.out
   have hbl := HBr.out
   obtain ⟨q1, hq1⟩ : ∃ q1 : Int, (((X7.lastX D (LL s) a may (s.size - a)).1 : Nat) : Int) = q1 := ⟨_, rfl⟩
   obtain ⟨q2, hq2⟩ : ∃ q2 : Int, (((X7.lastX D (LL s) a may (s.size - a)).2 : Nat) : Int) = q2 := ⟨_, rfl⟩
   rw [hq1, hq2] at hin
   have HQ := hid (And.intro hq1 hq2)
   clear hq1 hq2
   have c30 : World.cell? wr ⟨w2.heap.size, 0, none⟩ = some (.int .u64 q1) := Lib.cell_of_heap hin 0
   have c31 : World.cell? wr ⟨w2.heap.size, 1, none⟩ = some (.int .i64 q2) := Lib.cell_of_heap hin 1
   have c20 : World.cell? wr ⟨w1.heap.size, 0, none⟩ = some (.int .u64 0) := Lib.cell_of_heap hn2 0
   have c21 : World.cell? wr ⟨w1.heap.size, 1, none⟩ = some (.int .i64 0) := Lib.cell_of_heap hn2 1
   have f20 := Lib.frozen_of_heap hn2 0
   have f21 := Lib.frozen_of_heap hn2 1
   have hset := set_two hn2 (.int .u64 q1) (.int .i64 q2)
   have HSET := hid (And.intro hset.1 (KeptX.bel (m := w.heap.size) (b := w1.heap.size) hset.2 hbl (Nat.le_refl _) le3))
   clear hset
   go_wp2_with fail
   refine bodyPost_ret (results_cell_row rfl _ _ w1.heap.size 63 _ (0, 0) _ rfl HSET.out.1 Tryz.underlying63 rfl (by kernel_rfl)) rfl ?_
   refine ⟨?_, HSET.out.2⟩
   rw [hlg.out, ← HQ.out.1, ← HQ.out.2]
end Go.Proofs.YtochckefnjobhaaGreatDoor
