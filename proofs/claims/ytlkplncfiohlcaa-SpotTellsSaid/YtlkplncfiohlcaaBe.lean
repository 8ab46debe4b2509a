/- bits.each and its closure: it hands the numbers of a set to a loop's body, one by one, rising. -/
import Derived.RangeFuncNested
import Derived.RangeFuncBound
import Derived.RangeFuncLeaves
import Derived.Shelf.Abstract
import Derived.Shelf.RegionOpen
import Derived.WalkKit
import Derived.OwnWalkIn
import Derived.TacticsInMore
import Derived.LoopNIn
import Derived.LoopIn
import Derived.WalkSmall
import Derived.Lib.Hide
import Derived.Outline
import Derived.Test.YtlkplncfiohlcaaProg
import Derived.Test.YtlkplncfiohlcaaBl
import Derived.Test.YtlkplncfiohlcaaBm
namespace Go.Proofs.Ytlkplncfiohlcaa
open Go Go.RowKit Go.Shelf Go.Lib
attribute [local go_sem] Oper.semAt_some

set_option maxRecDepth 100000 in
set_option maxHeartbeats 1000000 in
theorem each_in (F : Fence) (n : Nat) (h45 : F.fn 45) (hro : F.round = none) (s : Int) (w : World) :
    CallsIn F n Try.prog 45 #[.int .u64 s] w fun e w' => e = .returned (.func (.func 51) #[] #[.pointer (some ⟨w.heap.size, 0, none⟩)]) ∧ w' = w.alloc (.cells #[.int .u64 s] 23) := by
  refine callsIn_of_wp Try.func45 rfl h45 ?_ hro
  simp only [Try.ntmps45, List.size_toArray, List.length_cons, List.length_nil, Nat.reduceAdd, Nat.reduceSub, Array.replicate_succ, Array.replicate_zero, List.push_toArray, List.append_toArray, List.nil_append, List.cons_append]
  gi_wp2
  go_ret
  exact ⟨rfl, rfl⟩

theorem boxed_half {W : World} {Bs s k t : Nat} (h : Boxed W Bs 23 (.int .u64 (t : Int))) (ht : t = s >>> k) :
    Boxed (W.setCell ⟨Bs, 0, none⟩ (.int .u64 ((t : Int) / 2))).drew Bs 23 (.int .u64 ((s >>> (k + 1) : Nat) : Int)) := by
  have e : ((t : Int) / 2) = ((s >>> (k + 1) : Nat) : Int) := by
    rw [← shr_one, ← ht, Nat.shiftRight_eq_div_pow]; omega
  rw [e]
  exact Boxed.set (.int .u64 ((s >>> (k + 1) : Nat) : Int)) h
theorem grown_half (W : World) (Bs : Nat) (v : Value) : W.grownBy (W.setCell ⟨Bs, 0, none⟩ v).drew (some Bs) :=
  ⟨rfl, rfl, rfl, (grownBy_setCell' W Bs v).size, (grownBy_setCell' W Bs v).block⟩

set_option maxRecDepth 100000 in
set_option maxHeartbeats 1000000 in
theorem each1_seq (F : Fence) (n : Nat) (h51 : F.fn 51) (hro : F.round = none) (hn : 1 ≤ n) (Bs s : Nat) (hs : s < 18446744073709551616) (w : World) (hb : Boxed w Bs 23 (.int .u64 (s : Int))) :
    CellSeq F n Try.prog 51 #[.pointer (some ⟨Bs, 0, none⟩)] (fun k : Nat => #[Value.int .i64 (k : Int)]) Bs (fun xs => xs = upto s 64) (fun pre => pre <+: upto s 64) 64 w := fun l J Jx W hW hJ hY h0 => by
  refine callsIn_of_wp Try.func51 rfl h51 ?_ hro
  simp only [Try.ntmps51, List.size_toArray, List.length_cons, List.length_nil, Nat.reduceAdd, Nat.reduceSub, Array.replicate_succ, Array.replicate_zero, List.push_toArray, List.append_toArray, List.nil_append, List.cons_append]
  gi_wp2
  gi_loopw [3] (fun i wr => ∃ k : Nat, k ≤ 64 ∧ i = .int .i64 (k : Int) ∧ Boxed wr Bs 23 (.int .u64 ((s >>> k : Nat) : Int)) ∧ J (upto s k) wr)
    (fun i _ => 64 - (intOf i).toNat)
  case atStart =>
    exact ⟨0, by omega, rfl, hW.trans hb, h0⟩
  case round =>
    obtain ⟨k, hk, rfl, hbx, hj⟩ := hrel
    obtain ⟨t, ht⟩ : ∃ t : Nat, t = s >>> k := ⟨_, rfl⟩
    rw [← ht] at hbx
    have hc := hbx.cell
    have hfz := hbx.frozen
    have hbit := testBit_shr s k
    rw [← ht] at hbit
    have htb : t ≤ 18446744073709551615 := by rw [ht, Nat.shiftRight_eq_div_pow]; have := Nat.div_le_self s (2 ^ k); omega
    have hand := and_one_u64 (t : Int) (by omega) (by omega)
    by_cases hz : t = 0
    · have T0 : ((t : Int) != 0) = false := by simp [hz]
      have HT := hid ht; clear ht
      have HB := hid hbit; clear hbit
      have HA := hid hand; clear hand
      have HZ := hid hz; clear hz
      gi_wp2
      go_end0
      exact ⟨⟨_, rfl⟩, .inl ⟨_, upto_all (by rw [← HT.out, HZ.out]) hk, hj⟩⟩
    · have hk2 : k < 64 := shr_lt hs (by rw [← ht]; exact hz)
      have T0 : ((t : Int) != 0) = true := by simp [hz]
      have hlen := upto_length s k
      by_cases h1 : t % 2 = 1
      · have T1 : (bits BinOp.and IntKind.u64 (t : Int) 1 == 1) = true := by rw [hand]; simp; omega
        obtain ⟨fn, tmps, assign, body, hy, hR⟩ := hY (upto s k) k wr hj (by omega)
        rw [← upto_hit (by rw [hbit]; simp [h1])] at hR
        have HT := hid ht; clear ht
        have HB := hid hbit; clear hbit
        have HA := hid hand; clear hand
        have H1 := hid h1; clear h1
        gi_wp2
        refine hR.mono ?_
        rintro e W3 (⟨rfl, hJ3, hk3⟩ | ⟨rfl, hJx3⟩)
        · have hb3 : Boxed W3 Bs 23 (.int .u64 (t : Int)) := hk3.trans hbx
          have hc3 := hb3.cell
          have hfz3 := hb3.frozen
          have HK3 := hid hk3; clear hk3
          gi_wp2
          gi_region
          all_goals
            rw [show IntKind.i64.wrap ((k : Int) + 1) = ((k + 1 : Nat) : Int) from IntWalk.i64_in _ (by omega)]
            go_roundw
            case rel => (repeat apply Exists.intro); exact ⟨⟨k + 1, by omega, rfl, boxed_half hb3 (HT.out), hJ _ _ _ hJ3 (grown_half W3 Bs _)⟩, rfl⟩
            case measure => simp [intOf]; omega
        · gi_wp2
          refine bodyPost_ret (results_none rfl _ _ _) rfl ?_
          exact ⟨⟨_, rfl⟩, .inr ⟨_, upto_prefix s (k + 1) (by omega), hJx3⟩⟩
      · have T1 : (bits BinOp.and IntKind.u64 (t : Int) 1 == 1) = false := by rw [hand]; simp; omega
        have HT := hid ht; clear ht
        have HB := hid hbit; clear hbit
        have HA := hid hand; clear hand
        have H1 := hid h1; clear h1
        gi_wp2
        refine ⟨fun _ h => (by cases h), ?_⟩
        gi_wp2
        gi_region
        all_goals
          rw [show IntKind.i64.wrap ((k : Int) + 1) = ((k + 1 : Nat) : Int) from IntWalk.i64_in _ (by omega)]
          go_roundw
          case rel => (repeat apply Exists.intro); exact ⟨⟨k + 1, by omega, rfl, boxed_half hbx (HT.out), hJ _ _ _ (by rw [upto_miss (by rw [HB.out]; simpa using H1.out)]; exact hj) (grown_half wr Bs _)⟩, rfl⟩
          case measure => simp [intOf]; omega

end Go.Proofs.Ytlkplncfiohlcaa
