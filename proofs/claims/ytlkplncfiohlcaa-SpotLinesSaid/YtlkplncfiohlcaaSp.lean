/- The walk of the law SpotLines of package spot. -/
import Derived.Test.YtlkplncfiohlcaaSo
import Derived.Test.YtlkplncfiohlcaaSj
namespace Go.Proofs.Ytlkplncfiohlcaa
open Go Go.RowKit Go.Lib

theorem lineL_le (l : List UInt8) (n : Int) : (lineL l n).length ≤ l.length := by
  unfold lineL
  split
  · simp
  · have := (List.takeWhile_prefix (fun b : UInt8 => b != 10) (l := l.drop (begI l n).toNat)).length_le
    rw [List.length_drop] at this
    unfold upN
    omega

theorem joinN_take_le : ∀ (xs : List (List UInt8)) (k : Nat), (joinN (xs.take k)).length ≤ (joinN xs).length
  | [], k => by simp
  | [x], 0 => by simp [joinN]
  | [x], k + 1 => by simp
  | x :: y :: r, 0 => by simp [joinN]
  | x :: y :: r, 1 => by simp [joinN]
  | x :: y :: r, k + 2 => by
    have := joinN_take_le (y :: r) (k + 1)
    simp only [List.take_succ_cons, joinN, List.length_append, List.length_cons] at this ⊢
    omega
theorem joinN_step (xs : List (List UInt8)) (k : Nat) (h : k < xs.length) (h0 : 0 < k) : joinN (xs.take (k + 1)) = joinN (xs.take k) ++ 10 :: xs.getD k [] := by
  have e : xs.take (k + 1) = xs.take k ++ [xs.getD k []] := by
    rw [List.take_add_one, List.getD_eq_getElem?_getD, List.getElem?_eq_getElem h]
    rfl
  rw [e, joinN_snoc, if_neg]
  intro h'
  have := congrArg List.length h'
  rw [List.length_take, List.length_nil] at this
  omega
theorem joinN_one (xs : List (List UInt8)) (h : 0 < xs.length) : joinN (xs.take 1) = xs.getD 0 [] := by
  cases xs with
  | nil => simp at h
  | cons x r => simp [joinN]

set_option maxRecDepth 100000 in
set_option maxHeartbeats 2000000 in
theorem lines_walk (t : ByteArray) (w : World) : Calls Try.prog 11 #[.string t] w fun e w' => e = .returned (.bool true) ∧ Below w.heap.size w w' := by
  by_cases hall : (t.size : Int) ≤ 300
  · have hlen : t.data.toList.length = t.size := rfl
    have l1 := hid fun w => Lines_any t w (by omega)
    have l2 := hid fun (n : Int) (h0 : 0 ≤ n) (h1 : n ≤ 301) w => Line_any t n w (by omega) (by omega) (by omega)
    have hR := lineN_le t.data.toList
    have HS := hid (splitN_length t.data.toList)
    have HJ := hid (joinN_split t.data.toList)
    rw [hlen] at hR
    have hR2 : (lineN t.data.toList : Int) ≤ 300 := by omega
    clear hlen hR
    generalize hRR : lineN t.data.toList = R at *
    clear hRR
    have hnl : ∃ nl : ByteArray, nl.size = 1 ∧ nl.data.toList = [10] ∧ ∀ w : World, (convert 50 9 (.slice (some { block := w.heap.size, off := 0 }) 1 1)).run Try.prog (w.alloc (.cells #[.int .u8 10] 5)) = .ok (.string nl) (w.alloc (.cells #[.int .u8 10] 5)) :=
      ⟨⟨[(10 : UInt8)].toArray⟩, rfl, rfl, fun w => run_convert_bytes_back (P := Try.prog) (w.alloc (.cells #[.int .u8 10] 5)) 50 9 5 ⟨w.heap.size, 0, none⟩ 1 [10] Try.underlying50 Try.underlying5 Try.underlying9 (fun j hj => by
        have : j = 0 := by simpa using hj
        subst this
        rw [Addr.add_lit, World.cell?_alloc_mark]
        rfl)⟩
    obtain ⟨nl, nls, nld, kc⟩ := hnl
    go_enter Try.func11, Try.ntmps11
    go_wp2_with fail
    refine (spot_works w).mono ?_
    rintro e w1 ⟨rfl, k0, hw1⟩
    have hB0 : Below w.heap.size w w1 := by rw [hw1]; exact below_drewN (Below.refl _ _) k0
    clear hw1
    go_wp2
    go_loopw [4, 5, 6, 7] (fun v i _ _ wr => ∃ (k : Nat) (x : ByteArray), k ≤ R + 1 ∧ i = .int .i64 (k : Int) ∧ v = .string x ∧ x.data.toList = joinN ((splitN t.data.toList).take k) ∧ Below w.heap.size w wr) (fun _ i _ _ _ => R + 1 - (RowKit.intOf i).toNat)
    case atStart => exact ⟨0, { data := #[] }, Nat.zero_le _, rfl, rfl, rfl, hB0⟩
    case round =>
      obtain ⟨k, x, hk, rfl, rfl, hx, hB⟩ := hrel
      have HX := hid hx
      have hxl : (x.size : Int) ≤ 300 := by
        have h1 : x.size = (joinN ((splitN t.data.toList).take k)).length := by rw [← hx]; rfl
        have h2 := joinN_take_le (splitN t.data.toList) k
        have h3 : t.data.toList.length = t.size := rfl
        rw [HJ.out] at h2
        omega
      clear hx
      by_cases hlt : k < R + 1
      · have hk2 : (k : Int) < (R : Int) + 1 := by omega
        go_wp2_with fail
        refine (l1.out _).mono ?_
        rintro e w' ⟨rfl, rfl⟩
        go_wp2_with fail
        refine (l2.out _ (by omega) (by omega) _).mono ?_
        rintro e w2 ⟨⟨y, hy, rfl⟩, k2, hw2⟩
        replace hB : Below w.heap.size w w2 := by rw [hw2]; exact below_drewN hB k2
        clear hw2
        have HY := hid hy
        clear hy
        have hyl : (y.size : Int) ≤ 300 := by
          have h1 : y.size = (lineL t.data.toList (k : Int)).length := by rw [← HY.out]; rfl
          have h2 := lineL_le t.data.toList (k : Int)
          have h3 : t.data.toList.length = t.size := rfl
          omega
        have HN : Hid (∀ j (h : j < y.size), (((y[j]'h).toNat : Int) == 10) = false) := fun j h => by
          have hm : y[j]'h ∈ y.data.toList := by
            have := List.getElem_mem (l := y.data.toList) (n := j) h
            exact this
          rw [HY.out] at hm
          have hne := lineL_no _ _ _ hm
          rw [beq_eq_false_iff_ne]; intro h'; apply hne; apply UInt8.toNat_inj.1; show _ = 10; omega
        go_wp2
        go_loop [7] (fun i => ∃ j : Nat, j ≤ y.size ∧ i = .int .i64 (j : Int)) (fun i => y.size - (RowKit.intOf i).toNat)
        case atStart => exact ⟨0, Nat.zero_le _, rfl⟩
        case round =>
          obtain ⟨j, hj, rfl⟩ := hrel
          by_cases hjl : j < y.size
          · have tb := HN.out j hjl
            have j0 : (0 : Int) ≤ (j : Int) := by omega
            have j1 : (j : Int) < (y.size : Int) := by omega
            go_wp2
            exact ⟨⟨j + 1, by omega, by go_num⟩, by simp [RowKit.intOf]; omega⟩
          · have hns : ¬ (9223372036854775807 < x.size + y.size) := by omega
            have hns1 : ¬ (9223372036854775807 < x.size + nl.size) := by omega
            have hsz : (x ++ nl).size = x.size + nl.size := ByteArray.size_append
            have hns2 : ¬ (9223372036854775807 < (x ++ nl).size + y.size) := by omega
            by_cases h0 : k = 0
            · subst h0
              go_wp2
              refine ⟨⟨1, x ++ y, by omega, rfl, rfl, ?_, hB⟩, by simp [RowKit.intOf]⟩
              rw [joinN_one _ (by rw [HS.out]; omega), ← lineL_split]
              rw [show (x ++ y).data.toList = x.data.toList ++ y.data.toList by simp, HX.out, HY.out]
              simp [joinN]
            · have h0' : (0 : Int) < (k : Int) := by omega
              have h0'' : 0 < k := by omega
              go_wp2
              refine ⟨⟨k + 1, x ++ nl ++ y, by omega, by go_num, rfl, ?_, hB.alloc (by have := hB.size; omega) _⟩, by simp [RowKit.intOf]; omega⟩
              rw [joinN_step _ _ (by rw [HS.out]; omega) h0'', ← lineL_split]
              rw [show (x ++ nl ++ y).data.toList = x.data.toList ++ (nl.data.toList ++ y.data.toList) by simp, HX.out, HY.out, nld]
              rfl
      · have hkR : k = R + 1 := by omega
        subst hkR
        have hk2 : ¬ ((↑(R + 1) : Int) < (R : Int) + 1) := by omega
        have hx : x = t := by
          have h1 := HX.out
          rw [List.take_of_length_le (by rw [HS.out]; omega), HJ.out] at h1
          exact text_ext h1
        subst hx
        go_wp2_with fail
        refine (l1.out _).mono ?_
        rintro e w' ⟨rfl, rfl⟩
        go_wp2
        go_ret
        exact ⟨rfl, hB⟩
  · have h1 : 300 < (t.size : Int) := by omega
    go_enter Try.func11, Try.ntmps11
    go_wp2_with fail
    refine (spot_works w).mono ?_
    rintro e w' ⟨rfl, k, rfl⟩
    go_wp2
    go_ret
    exact ⟨rfl, below_drewN (Below.refl _ _) k⟩

end Go.Proofs.Ytlkplncfiohlcaa
