/- The document's own answer for lines. -/
import Derived.OwnWalk
import Derived.Maps.AppendAt
import Derived.WalkSpells
import Derived.Test.YtlkplncfiohlcaaSo
import Derived.Test.YtlkplncfiohlcaaRb
import Derived.Test.YtlkplncfiohlcaaSi
namespace Go.Proofs.Ytlkplncfiohlcaa
open Go Go.RowKit Go.Shelf Go.Lib

theorem splitN_snoc : ∀ (l : List UInt8) (L : List (List UInt8)) (c : List UInt8) (b : UInt8), splitN l = L ++ [c] → splitN (l ++ [b]) = if b = 10 then L ++ [c] ++ [[]] else L ++ [c ++ [b]]
  | [], L, c, b, h => by
    have h' : ([[]] : List (List UInt8)) = L ++ [c] := h
    cases L with
    | nil =>
      simp only [List.nil_append, List.cons.injEq, and_true] at h'
      subst h'
      by_cases hb : b = 10
      · subst hb; rfl
      · simp [splitN, hb]
    | cons x L => simp at h'
  | a :: l, L, c, b, h => by
    obtain ⟨L', c', e⟩ : ∃ L' c', splitN l = L' ++ [c'] := by
      obtain ⟨x, r, e⟩ := splitN_ne l
      rcases List.eq_nil_or_concat (x :: r) with h | ⟨L', c', h⟩
      · cases h
      · exact ⟨L', c', by rw [e, h]; simp⟩
    have ih := splitN_snoc l L' c' b e
    rw [List.cons_append]
    by_cases ha : a = 10
    · rw [splitN, if_pos ha, e] at h
      rw [splitN, if_pos ha, ih]
      have h2 : ([] :: L') ++ [c'] = L ++ [c] := h
      obtain ⟨rfl, h3⟩ := List.append_inj' h2 rfl
      cases h3
      split <;> rfl
    · rw [splitN, if_neg ha, e] at h
      rw [splitN, if_neg ha, ih]
      cases L' with
      | nil =>
        have h2 : [] ++ [a :: c'] = L ++ [c] := h
        obtain ⟨rfl, h3⟩ := List.append_inj' h2 rfl
        cases h3
        by_cases hb : b = 10
        · simp [hb]
        · simp [hb]
      | cons x L' =>
        have h2 : ((a :: x) :: L') ++ [c'] = L ++ [c] := h
        obtain ⟨rfl, h3⟩ := List.append_inj' h2 rfl
        cases h3
        by_cases hb : b = 10
        · simp [hb]
        · simp [hb]

/-- The strings of a list. -/
abbrev strs (xs : List ByteArray) : List Value := xs.map Value.string
abbrev texts (xs : List ByteArray) : List (List UInt8) := xs.map (·.data.toList)
/-- A list of strings of one's own. -/
abbrev Rowed (base : Nat) (xs : List ByteArray) (W : World) (v : Value) : Prop := W.ownsRow base 9 1 v xs.length (strs xs)
theorem info9 : (Try.prog.info? 9).map (fun i => (i.zero, i.size, i.bytes)) = some (some (.string ByteArray.empty), 1, 16) := by kernel_rfl
theorem rowed_snoc {base : Nat} {xs : List ByteArray} {x : ByteArray} {W : World} {v : Value} (h : W.ownsRow base 9 1 v (xs.length + 1) (strs xs ++ [.string x])) : Rowed base (xs ++ [x]) W v := by
  unfold Rowed strs
  rw [List.length_append, List.map_append]
  exact h
theorem below_append9 {base : Nat} {w wr w1 : World} {v : Value} {xs : List ByteArray} {o : Obj} (hB : Below base w wr) (hb : base ≤ wr.heap.size) (hL : Rowed base xs wr v) (hg : (wr.alloc o).grownBy w1 v.ownBlock) : Below base w w1 :=
  (hB.alloc hb o).grown hg (by simp; omega) fun k e => (hL.lt k e).1

set_option maxHeartbeats 1000000 in
theorem RCut_any (t : ByteArray) (w : World) (ht : t.size ≤ 1000000) :
    Calls Try.prog 34 #[.string t] w fun e W' => ∃ v xs, e = .returned v ∧ texts xs = splitN t.data.toList ∧ Rowed w.heap.size xs W' v ∧ Below w.heap.size w W' := by
  obtain ⟨i0, hi, hz0, hz1, hz2⟩ := info_parts info9
  have hlen : t.data.toList.length = t.size := rfl
  go_enter Try.func34, Try.ntmps34
  go_wp2
  go_loopw [3, 4, 5] (fun v f i wr => ∃ (k p : Nat) (xs : List ByteArray), k ≤ t.size ∧ p ≤ k ∧ xs.length ≤ k ∧ i = .int .i64 (k : Int) ∧ f = .int .i64 (p : Int) ∧ splitN (t.data.toList.take k) = texts xs ++ [(t.data.toList.take k).drop p] ∧ Rowed w.heap.size xs wr v ∧ Below w.heap.size w wr) (fun _ _ i _ => t.size - (RowKit.intOf i).toNat)
  case atStart => exact ⟨0, 0, [], by omega, by omega, by simp, rfl, rfl, by simp [splitN], World.ownsRow_nil _ _ _ _, Below.refl _ _⟩
  case round =>
    obtain ⟨k, p, xs, hk, hp, hxs, rfl, rfl, hs, hL, hB⟩ := hrel
    have HS := hid hs
    clear hs
    have hsz := hB.size
    have i0k : (0 : Int) ≤ (k : Int) := by omega
    have i0p : (0 : Int) ≤ (p : Int) := by omega
    have ipk : (p : Int) ≤ (k : Int) := by omega
    have ikt : (k : Int) ≤ (t.size : Int) := by omega
    by_cases hlt : k < t.size
    · have i1 : (k : Int) < (t.size : Int) := by omega
      have TB := take_byte t hlt
      have hsn := splitN_snoc _ _ _ t[k] HS.out
      rw [← TB] at hsn
      have hdr : (t.data.toList.take (k + 1)).drop p = (t.data.toList.take k).drop p ++ [t[k]] := by
        rw [TB, List.drop_append_of_le_length (by rw [List.length_take]; omega)]
      have hnil : (t.data.toList.take (k + 1)).drop (k + 1) = [] := by
        rw [List.drop_eq_nil_iff, List.length_take]; omega
      have HN := hid hnil
      have HD := hid hdr
      clear hnil hdr TB
      by_cases hb : t[k] = 10
      · rw [if_pos hb] at hsn
        have HSN := hid hsn
        have tb : (((t[k]).toNat : Int) == 10) = true := by rw [hb]; rfl
        clear hsn hb
        go_wp2_with (at_builtin; go_must (refine wpList_append_own _ rfl _ _ 40 rfl w.heap.size 9 i0 (.string ByteArray.empty) 1 16 Try.underlying40 hi hz0 hz1 hz2 rfl (by decide) _ _ _ rfl (hL.alloc _) ⟨wr.heap.size, 0, none⟩ 1 1 [.string (t.extract p k)] rfl rfl (cell_one_new _ _ _) (by simp [Value.oneCell']) (by unfold maxLen; omega) (by omega) (by simp; omega) ?_); intro v' w1 hown' hgrow _)
        refine ⟨⟨k + 1, k + 1, xs ++ [t.extract p k], by omega, by omega, by simp; omega, by go_num, by go_num, ?_, rowed_snoc hown', below_append9 hB hsz hL hgrow⟩, by simp [RowKit.intOf]; omega⟩
        rw [HSN.out, HN.out]
        simp only [texts, List.map_append, List.map_cons, List.map_nil]
        rw [list_cut]
      · rw [if_neg hb] at hsn
        have HSN := hid hsn
        have tb : (((t[k]).toNat : Int) == 10) = false := by
          rw [beq_eq_false_iff_ne]; intro h; apply hb; apply UInt8.toNat_inj.1; show _ = 10; omega
        clear hsn hb
        go_wp2
        exact ⟨⟨k + 1, p, xs, by omega, by omega, by omega, by go_num, rfl, by rw [HSN.out, HD.out], hL, hB⟩, by simp [RowKit.intOf]; omega⟩
    · obtain rfl : k = t.size := by omega
      have ht2 : (t.size : Int) ≤ 1000000 := by omega
      go_wp2_with (at_builtin; go_must (refine wpList_append_own _ rfl _ _ 40 rfl w.heap.size 9 i0 (.string ByteArray.empty) 1 16 Try.underlying40 hi hz0 hz1 hz2 rfl (by decide) _ _ _ rfl (hL.alloc _) ⟨wr.heap.size, 0, none⟩ 1 1 [.string (t.extract p t.size)] rfl rfl (cell_one_new _ _ _) (by simp [Value.oneCell']) (by unfold maxLen; omega) (by omega) (by simp; omega) ?_); intro v' w1 hown' hgrow _)
      go_ret
      refine ⟨_, xs ++ [t.extract p t.size], rfl, ?_, rowed_snoc hown', below_append9 hB hsz hL hgrow⟩
      have h1 := HS.out
      rw [List.take_of_length_le (Nat.le_refl t.size)] at h1
      rw [h1]
      simp only [texts, List.map_append, List.map_cons, List.map_nil]
      rw [list_cut, List.take_of_length_le (Nat.le_refl t.size)]

end Go.Proofs.Ytlkplncfiohlcaa
