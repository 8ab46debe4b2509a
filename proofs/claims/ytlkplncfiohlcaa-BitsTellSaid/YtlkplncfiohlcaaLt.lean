/- The walk of the law BitsTell of package bits: whatever the two sets, the list of numbers and the number, it answers true. -/
import Derived.Test.YtlkplncfiohlcaaRe
import Derived.Test.YtlkplncfiohlcaaBs
namespace Go.Proofs.Ytlkplncfiohlcaa
open Go Go.RowKit Go.Shelf Go.Lib

theorem Of_reads {v : Value} {l : List Int} {w : World} (hl : l.length ≤ 9223372036854775807) (h : Reads w v l) :
    Calls Try.prog 16 #[v] w fun e w' => e = .returned (u64 (ofN l)) ∧ w = w' := by
  obtain ⟨A, cap, rfl, hrd⟩ := h
  by_cases hn : l = []
  · subst hn
    exact Of_nil A cap w
  · obtain ⟨b, off, rfl, hc⟩ := hrd hn
    exact Of_some b off cap l w hl hc

theorem reads_one (w : World) (n : Int) : Reads (w.alloc (.cells #[.int .i64 n] 3)) (.slice (some ⟨w.heap.size, 0, none⟩) 1 1) [n] :=
  ⟨_, 1, rfl, fun _ => ⟨_, 0, rfl, fun i hi => by
    match i, hi with
    | 0, _ => simp⟩⟩
theorem ofN_one (n : Int) : ofN [n] = bitN n := by simp [ofN]

theorem ROf_one (n : Int) (w : World) : Calls Try.prog 17 #[.slice (some ⟨w.heap.size, 0, none⟩) 1 1] (w.alloc (.cells #[.int .i64 n] 3)) fun e w' => e = .returned (u64 (bitN n)) ∧ w.alloc (.cells #[.int .i64 n] 3) = w' := by
  have := ROf_reads (by simp) (reads_one w n)
  rwa [ofN_one] at this

theorem first_step {a : Nat} {l : List Nat} (h : upto a 64 = l) : firstOf l = match l with | [] => -1 | x :: _ => (x : Int) := by cases l <;> rfl

set_option maxRecDepth 100000 in
set_option maxHeartbeats 4000000 in
theorem tell_walk (a b : Nat) (ha : a < 18446744073709551616) (hb : b < 18446744073709551616) (v : Value) (l : List Int) (n : Int) (w : World) (hll : l.length ≤ 9223372036854775807) (hr : Reads w v l) :
    Calls Try.prog 3 #[u64 a, u64 b, v, .int .i64 n] w fun e w' => e = .returned (.bool true) ∧ Below w.heap.size w w' := by
  have KR : Hid (∀ W, Below w.heap.size w W → Reads W v l) := fun W hW => hr.below hW
  obtain ⟨A, cap, rfl, _⟩ := hr
  by_cases hbig : 1000 < l.length
  · have hb2 : (1000 : Int) < (l.length : Int) := by omega
    go_enter Try.func3, Try.ntmps3
    go_wp2_with fail
    refine (works_any w).mono ?_
    rintro e w1 ⟨rfl, hB⟩
    go_wp2
    go_ret
    exact ⟨rfl, hB⟩
  · have hb2 : (l.length : Int) ≤ 1000 := by omega
    clear hbig
    have c1 := hid fun w => RList_any a ha w
    have c2 := hid fun (w : World) (hR : Reads w (.slice A l.length cap) l) => Of_reads hll hR
    have c3 := hid fun (w : World) (hR : Reads w (.slice A l.length cap) l) => ROf_reads hll hR
    have c4 := hid fun w => List_any a ha w
    have c5 := hid fun w => Has_any a n ha w
    have c6 := hid fun w => RHas_any a n ha w
    have c7 := hid fun w => Count_any a ha w
    have c8 := hid fun w => First_any a ha w
    have c9 := hid fun w => Union_any a b ha hb w
    have c10 := hid fun w => RUnion_any a b ha hb w
    have c11 := hid fun w => Meet_any a b ha hb w
    have c12 := hid fun w => RMeet_any a b ha hb w
    have c13 := hid fun w => Less_any a b ha hb w
    have c14 := hid fun w => RLess_any a b ha hb w
    have c15 := hid fun w => In_any a b ha hb w
    have c16 := hid fun w => With_any a n ha w
    have c17 := hid fun w => RUnion_any a (bitN n) ha (bitN_lt n) w
    have c18 := hid fun w => Without_any a n ha w
    have c19 := hid fun w => RLess_any a (bitN n) ha (bitN_lt n) w
    have c20 := hid fun w => ROf_one n w
    have hin : (((lessN a b : Nat) : Int) == 0) = inN a b := by
      unfold inN; rw [Bool.eq_iff_iff]; simp
    have hlen := upto_length a 64
    generalize ofN l = Ol at *
    generalize hasN a n = Hb at *
    generalize a ||| b = U at *
    generalize a &&& b = M at *
    generalize lessN a b = L at *
    generalize inN a b = I at *
    generalize a ||| bitN n = Wi at *
    generalize lessN a (bitN n) = Wo at *
    generalize bitN n = Bn at *
    have HIN := hid hin
    clear hin
    cases hu : upto a 64 with
    | nil =>
      rw [hu] at c1 c4 c7 c8 hlen
      clear hu
      have e0 : firstOf [] = -1 := rfl
      rw [e0] at c8
      clear e0 hlen
      have c21 : Hid (∀ (b1 b2 : Nat) (v1 v2 : Value) (W : World), Listed b1 [] W v1 → Listed b2 [] W v2 → Calls Try.prog 18 #[v1, v2] W fun e w' => e = .returned (.bool true) ∧ ∃ n, w' = W.drewN n) := fun b1 b2 v1 v2 W h1 h2 =>
        Row_reads (by simp [ints]) h1.reads h2.reads
      go_enter Try.func3, Try.ntmps3
      go_wp2_with fail
      refine (works_any w).mono ?_
      rintro e w1 ⟨rfl, hB⟩
      go_wp2_with fail
      refine (c1.out _).mono ?_
      rintro e w2 ⟨v2, rfl, hL, hB2⟩
      obtain rfl : v2 = .slice none 0 0 := hL.2.2 rfl
      have HL := hid hL
      clear hL
      replace hB := hB.trans (hB2.mono hB.size)
      clear hB2
      go_wp2_with fail
      refine (c2.out _ (KR.out _ hB)).mono ?_
      rintro e w' ⟨rfl, rfl⟩
      go_wp2_with fail
      refine (c3.out _ (KR.out _ hB)).mono ?_
      rintro e w' ⟨rfl, rfl⟩
      go_wp2_with fail
      refine (c4.out _).mono ?_
      rintro e w3 ⟨v3, rfl, hL3, hB3⟩
      have HL3 := hid hL3
      have HL2 := hid (HL.out.below hB3)
      clear hL3 HL
      replace hB := hB.trans (hB3.mono hB.size)
      clear hB3
      go_wp2_with fail
      refine (c21.out _ _ _ _ _ HL3.out HL2.out).mono ?_
      rintro e w4 ⟨rfl, m, hw4⟩
      replace hB : Below w.heap.size w w4 := by rw [hw4]; exact below_drewN hB m
      clear hw4 HL3 HL2
      go_wp2_with fail
      refine (c5.out _).mono ?_
      rintro e w' ⟨rfl, rfl⟩
      go_wp2_with fail
      refine (c6.out _).mono ?_
      rintro e w' ⟨rfl, rfl⟩
      go_wp2_with fail
      refine (c7.out _).mono ?_
      rintro e wb1 ⟨rfl, hB5⟩
      replace hB := hB.trans (hB5.mono hB.size)
      clear hB5
      go_wp2_with fail
      refine (c8.out _).mono ?_
      rintro e wb2 ⟨rfl, hB5⟩
      replace hB := hB.trans (hB5.mono hB.size)
      clear hB5
      go_wp2_with fail
      refine (c9.out _).mono ?_
      rintro e w' ⟨rfl, rfl⟩
      go_wp2_with fail
      refine (c10.out _).mono ?_
      rintro e wb3 ⟨rfl, hB5⟩
      replace hB := hB.trans (hB5.mono hB.size)
      clear hB5
      go_wp2_with fail
      refine (c11.out _).mono ?_
      rintro e w' ⟨rfl, rfl⟩
      go_wp2_with fail
      refine (c12.out _).mono ?_
      rintro e wb4 ⟨rfl, hB5⟩
      replace hB := hB.trans (hB5.mono hB.size)
      clear hB5
      go_wp2_with fail
      refine (c13.out _).mono ?_
      rintro e w' ⟨rfl, rfl⟩
      go_wp2_with fail
      refine (c14.out _).mono ?_
      rintro e wb5 ⟨rfl, hB5⟩
      replace hB := hB.trans (hB5.mono hB.size)
      clear hB5
      go_wp2_with fail
      refine (c15.out _).mono ?_
      rintro e w' ⟨rfl, rfl⟩
      go_wp2_with fail
      refine (c14.out _).mono ?_
      rintro e wb6 ⟨rfl, hB5⟩
      replace hB := hB.trans (hB5.mono hB.size)
      clear hB5
      have HN := HIN.out
      go_wp2_with fail
      refine (c16.out _).mono ?_
      rintro e w' ⟨rfl, rfl⟩
      replace hB := hB.alloc hB.size (.cells #[.int .i64 n] 3)
      go_wp2_with fail
      refine (c20.out _).mono ?_
      rintro e w' ⟨rfl, rfl⟩
      go_wp2_with fail
      refine (c17.out _).mono ?_
      rintro e wb7 ⟨rfl, hB5⟩
      replace hB := hB.trans (hB5.mono hB.size)
      clear hB5
      go_wp2_with fail
      refine (c18.out _).mono ?_
      rintro e w' ⟨rfl, rfl⟩
      replace hB := hB.alloc hB.size (.cells #[.int .i64 n] 3)
      go_wp2_with fail
      refine (c20.out _).mono ?_
      rintro e w' ⟨rfl, rfl⟩
      go_wp2_with fail
      refine (c19.out _).mono ?_
      rintro e wb8 ⟨rfl, hB5⟩
      replace hB := hB.trans (hB5.mono hB.size)
      clear hB5
      go_wp2
      go_ret
      exact ⟨rfl, hB⟩
    | cons x r =>
      rw [hu] at c1 c4 c7 c8 hlen
      clear hu
      have e0 : firstOf (x :: r) = (x : Int) := rfl
      rw [e0] at c8
      clear e0
      have c21 : Hid (∀ (b1 b2 : Nat) (v1 v2 : Value) (W : World), Listed b1 (x :: r) W v1 → Listed b2 (x :: r) W v2 → Calls Try.prog 18 #[v1, v2] W fun e w' => e = .returned (.bool true) ∧ ∃ n, w' = W.drewN n) := fun b1 b2 v1 v2 W h1 h2 =>
        Row_reads (by simp [ints] at hlen ⊢; omega) h1.reads h2.reads
      have hr1 : (r.length : Int) + 1 ≤ 64 := by simp at hlen; omega
      have hr0 : (0 : Int) < (r.length : Int) + 1 := by omega
      clear hlen
      go_enter Try.func3, Try.ntmps3
      go_wp2_with fail
      refine (works_any w).mono ?_
      rintro e w1 ⟨rfl, hB⟩
      go_wp2_with fail
      refine (c1.out _).mono ?_
      rintro e w2 ⟨v2, rfl, hL, hB2⟩
      have hLo := hL.1
      obtain ⟨g, cap2, rfl⟩ := ownsRow_succ hLo
      have hc0 : w2.cell? ⟨g, 0, none⟩ = some (.int .i64 (x : Int)) := hLo.cellAt 0 (by simp)
      have HL := hid hL
      clear hLo hL
      replace hB := hB.trans (hB2.mono hB.size)
      clear hB2
      go_wp2_with fail
      refine (c2.out _ (KR.out _ hB)).mono ?_
      rintro e w' ⟨rfl, rfl⟩
      clear hc0
      go_wp2_with fail
      refine (c3.out _ (KR.out _ hB)).mono ?_
      rintro e w' ⟨rfl, rfl⟩
      go_wp2_with fail
      refine (c4.out _).mono ?_
      rintro e w3 ⟨v3, rfl, hL3, hB3⟩
      have HL3 := hid hL3
      have HL2 := hid (HL.out.below hB3)
      clear hL3 HL
      replace hB := hB.trans (hB3.mono hB.size)
      clear hB3
      go_wp2_with fail
      refine (c21.out _ _ _ _ _ HL3.out HL2.out).mono ?_
      rintro e w4 ⟨rfl, m, hw4⟩
      replace hB : Below w.heap.size w w4 := by rw [hw4]; exact below_drewN hB m
      clear hw4 HL3 HL2
      go_wp2_with fail
      refine (c5.out _).mono ?_
      rintro e w' ⟨rfl, rfl⟩
      go_wp2_with fail
      refine (c6.out _).mono ?_
      rintro e w' ⟨rfl, rfl⟩
      go_wp2_with fail
      refine (c7.out _).mono ?_
      rintro e wb1 ⟨rfl, hB5⟩
      replace hB := hB.trans (hB5.mono hB.size)
      clear hB5
      go_wp2_with fail
      refine (c8.out _).mono ?_
      rintro e wb2 ⟨rfl, hB5⟩
      replace hB := hB.trans (hB5.mono hB.size)
      clear hB5
      go_wp2_with fail
      refine (c9.out _).mono ?_
      rintro e w' ⟨rfl, rfl⟩
      go_wp2_with fail
      refine (c10.out _).mono ?_
      rintro e wb3 ⟨rfl, hB5⟩
      replace hB := hB.trans (hB5.mono hB.size)
      clear hB5
      go_wp2_with fail
      refine (c11.out _).mono ?_
      rintro e w' ⟨rfl, rfl⟩
      go_wp2_with fail
      refine (c12.out _).mono ?_
      rintro e wb4 ⟨rfl, hB5⟩
      replace hB := hB.trans (hB5.mono hB.size)
      clear hB5
      go_wp2_with fail
      refine (c13.out _).mono ?_
      rintro e w' ⟨rfl, rfl⟩
      go_wp2_with fail
      refine (c14.out _).mono ?_
      rintro e wb5 ⟨rfl, hB5⟩
      replace hB := hB.trans (hB5.mono hB.size)
      clear hB5
      go_wp2_with fail
      refine (c15.out _).mono ?_
      rintro e w' ⟨rfl, rfl⟩
      go_wp2_with fail
      refine (c14.out _).mono ?_
      rintro e wb6 ⟨rfl, hB5⟩
      replace hB := hB.trans (hB5.mono hB.size)
      clear hB5
      have HN := HIN.out
      go_wp2_with fail
      refine (c16.out _).mono ?_
      rintro e w' ⟨rfl, rfl⟩
      replace hB := hB.alloc hB.size (.cells #[.int .i64 n] 3)
      go_wp2_with fail
      refine (c20.out _).mono ?_
      rintro e w' ⟨rfl, rfl⟩
      go_wp2_with fail
      refine (c17.out _).mono ?_
      rintro e wb7 ⟨rfl, hB5⟩
      replace hB := hB.trans (hB5.mono hB.size)
      clear hB5
      go_wp2_with fail
      refine (c18.out _).mono ?_
      rintro e w' ⟨rfl, rfl⟩
      replace hB := hB.alloc hB.size (.cells #[.int .i64 n] 3)
      go_wp2_with fail
      refine (c20.out _).mono ?_
      rintro e w' ⟨rfl, rfl⟩
      go_wp2_with fail
      refine (c19.out _).mono ?_
      rintro e wb8 ⟨rfl, hB5⟩
      replace hB := hB.trans (hB5.mono hB.size)
      clear hB5
      go_wp2
      go_ret
      exact ⟨rfl, hB⟩

end Go.Proofs.Ytlkplncfiohlcaa
