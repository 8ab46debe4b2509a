/- The document's own answer for what is in one of two sets. -/
import Derived.Laws.AppendOwnNone
import Derived.Test.YtmfobiimihaiiaaJc
namespace Go.Proofs.Ytmfobiimihaiiaa
open Go Go.RowKit Go.Lib

theorem listed_or {base : Nat} {l : List Nat} {W : World} {v : Value} (h : Listed base l W v) : (l = [] ∧ v = .slice none 0 0) ∨ ∃ g cap, v = .slice (some ⟨g, 0, none⟩) l.length cap ∧ base ≤ g := by
  rcases h.1.2 with ⟨rfl, h0⟩ | ⟨g, cap, cur, rfl, hb, _⟩
  · exact .inl ⟨List.eq_nil_of_length_eq_zero h0, rfl⟩
  · exact .inr ⟨g, cap, rfl, hb⟩
theorem ofN_two (a b : Nat) (ha : a < 18446744073709551616) (hb : b < 18446744073709551616) : ofN (ints (upto a 64 ++ upto b 64)) = a ||| b := by
  refine set_ext (ofN_lt _) (or_lt ha hb) fun i hi => ?_
  rw [testBit_ofN, Nat.testBit_or, Bool.eq_iff_iff, decide_eq_true_eq, Bool.or_eq_true]
  simp only [ints, List.mem_map, List.mem_append, mem_upto]
  constructor
  · rintro ⟨_, j, h, e⟩
    obtain rfl : j = i := by omega
    exact h.imp (·.2) (·.2)
  · exact fun h => ⟨hi, i, h.imp (⟨hi, ·⟩) (⟨hi, ·⟩), rfl⟩
theorem nums_append (l m : List Nat) : nums (l ++ m) = nums l ++ nums m := by simp [nums]
theorem listed_more {base : Nat} {l m : List Nat} {W : World} {v : Value} (h : W.ownsRow base 3 1 v (l.length + m.length) (nums l ++ nums m)) (hm : m ≠ []) : Listed base (l ++ m) W v := by
  have hpos : 0 < m.length := List.length_pos_iff.2 hm
  obtain ⟨n, hn⟩ : ∃ n, m.length = n + 1 := ⟨m.length - 1, by omega⟩
  rw [hn, ← Nat.add_assoc] at h
  obtain ⟨g, cap, rfl⟩ := ownsRow_succ h
  refine ⟨?_, by simp [hm]⟩
  rw [nums_append, List.length_append, hn, ← Nat.add_assoc]
  exact h
theorem one_nums (l : List Nat) : ∀ u ∈ nums l, u.oneCell' = true := by
  intro u hu
  obtain ⟨k, _, rfl⟩ := List.mem_map.1 hu
  rfl
theorem nums_length (l : List Nat) : (nums l).length = l.length * 1 := by simp [nums]
theorem listed_ne {base : Nat} {l : List Nat} {W : World} {g cap : Nat} (h : Listed base l W (.slice (some ⟨g, 0, none⟩) l.length cap)) : l ≠ [] := fun e => by have := h.2.2 e; cases this

set_option maxHeartbeats 1000000 in
theorem RUnion_any (a b : Nat) (ha : a < 18446744073709551616) (hb : b < 18446744073709551616) (w : World) :
    Calls Try.prog 32 #[u64 a, u64 b] w fun e W' => e = .returned (u64 (a ||| b)) ∧ Below w.heap.size w W' := by
  obtain ⟨i0, hi, hz0, hz1, hz2⟩ := info_parts info3
  have hla := upto_length a 64
  have hlb := upto_length b 64
  have kla := hid fun w => RList_any a ha w
  have klb := hid fun w => RList_any b hb w
  have H := hid (ofN_two a b ha hb)
  generalize upto a 64 = l at *
  generalize upto b 64 = m at *
  generalize a ||| b = S at *
  have HE : Hid (∀ (base : Nat) (W : World) (v : Value), Listed base (l ++ m) W v → Calls Try.prog 38 #[v] W fun e w' => e = .returned (u64 S) ∧ W = w') := fun base W v h => by
    have := ROf_reads (by simp [ints]; omega) h.reads
    rwa [H.out] at this
  clear H
  go_enter Try.func32, Try.ntmps32
  go_wp2_with fail
  refine (kla.out _).mono ?_
  rintro e w1 ⟨va, rfl, hLa, hB⟩
  rcases listed_or hLa with ⟨rfl, rfl⟩ | ⟨ga, ca, rfl, hga⟩
  · go_wp2_with (at_builtin; go_must (refine wpList_append_own_none rfl _ _ 64 rfl w.heap.size 3 i0 1 Try.underlying64 hi (.slice none 0 0) _ _ rfl (World.ownsRow_nil w1 w.heap.size 3 1) rfl ?_))
    refine (klb.out _).mono ?_
    rintro e w2 ⟨vb, rfl, hLb, hB2⟩
    have hsz := hB.size
    replace hLb : Listed w.heap.size m w2 vb := ⟨Go.Joins.ownsRow_le hLb.1 hsz, hLb.2⟩
    replace hB := hB.trans (hB2.mono hB.size)
    clear hB2 hsz hLa
    have hsz := hB.size
    rcases listed_or hLb with ⟨rfl, rfl⟩ | ⟨gb, cb, rfl, hgb⟩
    · go_wp2_with (first | (at_builtin; go_must (refine wpList_append_own_none rfl _ _ 64 rfl w.heap.size 3 i0 1 Try.underlying64 hi (.slice none 0 0) _ _ rfl (World.ownsRow_nil w2 w.heap.size 3 1) rfl ?_)) | (go_at_call 38; refine (HE.out _ _ _ (listed_nil w.heap.size w2)).mono ?_; rintro e w' ⟨rfl, rfl⟩))
      go_ret
      exact ⟨rfl, hB⟩
    · go_wp2_with (at_builtin; go_must (refine wpList_append_own _ rfl _ _ 64 rfl w.heap.size 3 i0 (.int .i64 0) 1 8 Try.underlying64 hi hz0 hz1 hz2 rfl (by decide) _ _ _ rfl (World.ownsRow_nil w2 w.heap.size 3 1) ⟨gb, 0, none⟩ m.length cb (nums m) rfl (nums_length m) (hLb.1.cells rfl) (one_nums m) (by unfold maxLen; simp; omega) (by simp; omega) (by omega) ?_); intro v' w3 hown' hgrow _)
      have hL3 := listed_more (l := []) (m := m) (by simpa [nums] using hown') (listed_ne hLb)
      have hB3 : Below w.heap.size w w3 := hB.grown hgrow hsz (fun k e => by cases e)
      go_wp2_with (go_at_call 38; refine (HE.out _ _ _ hL3).mono ?_; rintro e w' ⟨rfl, rfl⟩)
      go_ret
      exact ⟨rfl, hB3⟩
  · have hsz := hB.size
    go_wp2_with (at_builtin; go_must (refine wpList_append_own _ rfl _ _ 64 rfl w.heap.size 3 i0 (.int .i64 0) 1 8 Try.underlying64 hi hz0 hz1 hz2 rfl (by decide) _ _ _ rfl (World.ownsRow_nil w1 w.heap.size 3 1) ⟨ga, 0, none⟩ l.length ca (nums l) rfl (nums_length l) (hLa.1.cells rfl) (one_nums l) (by unfold maxLen; simp; omega) (by simp; omega) (by omega) ?_); intro va w2 hown2 hgrow2 _)
    have hLl : Listed w.heap.size l w2 va := by
      have := listed_more (l := []) (m := l) (by simpa [nums] using hown2) (listed_ne hLa)
      simpa using this
    have hB2 : Below w.heap.size w w2 := hB.grown hgrow2 hsz (fun k e => by cases e)
    clear hB hLa hown2 hgrow2 hsz
    go_wp2_with fail
    refine (klb.out _).mono ?_
    rintro e w3 ⟨vb, rfl, hLb, hB3⟩
    have hsz2 := hB2.size
    replace hLb : Listed w.heap.size m w3 vb := ⟨Go.Joins.ownsRow_le hLb.1 hsz2, hLb.2⟩
    replace hLl := hLl.below hB3
    have hB := hB2.trans (hB3.mono hsz2)
    clear hB2 hB3 hsz2
    have hsz := hB.size
    have hrow := hLl.1
    rcases listed_or hLb with ⟨rfl, rfl⟩ | ⟨gb, cb, rfl, hgb⟩
    · rw [List.append_nil] at HE
      go_wp2_with (first | (at_builtin; go_must (refine wpList_append_own_none rfl _ _ 64 rfl w.heap.size 3 i0 1 Try.underlying64 hi va _ _ rfl hrow rfl ?_)) | (go_at_call 38; refine (HE.out _ _ _ hLl).mono ?_; rintro e w' ⟨rfl, rfl⟩))
      go_ret
      exact ⟨rfl, hB⟩
    · go_wp2_with (at_builtin; go_must (refine wpList_append_own _ rfl _ _ 64 rfl w.heap.size 3 i0 (.int .i64 0) 1 8 Try.underlying64 hi hz0 hz1 hz2 rfl (by decide) _ _ _ rfl hrow ⟨gb, 0, none⟩ m.length cb (nums m) rfl (nums_length m) (hLb.1.cells rfl) (one_nums m) (by unfold maxLen; omega) (by omega) (by omega) ?_); intro v' w4 hown' hgrow _)
      have hL3 := listed_more hown' (listed_ne hLb)
      have hB3 : Below w.heap.size w w4 := hB.grown hgrow hsz (fun k e => (hrow.lt k e).1)
      go_wp2_with (go_at_call 38; refine (HE.out _ _ _ hL3).mono ?_; rintro e w' ⟨rfl, rfl⟩)
      go_ret
      exact ⟨rfl, hB3⟩

end Go.Proofs.Ytmfobiimihaiiaa
