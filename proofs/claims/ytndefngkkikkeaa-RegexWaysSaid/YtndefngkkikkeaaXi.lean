/- What the composed regexes of the laws take. -/
import Derived.Test.YtndefngkkikkeaaXh
import Derived.Test.YtndefngkkikkeaaMh
set_option linter.unusedVariables false
set_option linter.unusedSimpArgs false
namespace Go.Proofs.X3

theorem mt_bar {x y : RX} {s : List UInt8} : Mt (.alt [x, y]) s ↔ Mt x s ∨ Mt y s := by
  constructor
  · intro h
    obtain ⟨r, hr, hm⟩ := mt_alt_inv h
    rcases List.mem_cons.1 hr with rfl | hr
    · exact .inl hm
    · rcases List.mem_cons.1 hr with rfl | hr
      · exact .inr hm
      · cases hr
  · rintro (h | h)
    · exact .alt _ x s (List.mem_cons_self ..) h
    · exact .alt _ y s (List.mem_cons_of_mem _ (List.mem_cons_self ..)) h
theorem mtL_one {x : RX} {s : List UInt8} : MtL [x] s ↔ Mt x s := by
  constructor
  · intro h
    obtain ⟨u, v, rfl, h1, h2⟩ := mtL_cons_inv h
    rw [mtL_nil_inv h2, List.append_nil]
    exact h1
  · intro h
    have := MtL.cons x [] s [] h .nil
    rwa [List.append_nil] at this
theorem mt_pair {x y : RX} {s : List UInt8} : Mt (.cat [x, y]) s ↔ ∃ u v, s = u ++ v ∧ Mt x u ∧ Mt y v := by
  constructor
  · intro h
    obtain ⟨u, v, rfl, h1, h2⟩ := mtL_cons_inv (mt_cat_inv h)
    exact ⟨u, v, rfl, h1, mtL_one.1 h2⟩
  · rintro ⟨u, v, rfl, h1, h2⟩
    exact .cat _ _ (.cons x [y] u v h1 (mtL_one.2 h2))
theorem mt_none {s : List UInt8} : ¬ Mt none0 s := by
  intro h
  obtain ⟨x, rfl⟩ := mt_bytes_inv h
  have := has_byte.2 h
  unfold hasX at this
  simp at this
theorem mt_empty {s : List UInt8} : Mt .empty s ↔ s = [] := ⟨mt_empty_inv, fun h => by rw [h]; exact .empty⟩
theorem mt_star_one {x : RX} {s : List UInt8} (h : Mt x s) : Mt (.star x) s := by
  have := Mt.star1 x s [] h (.star0 x)
  rwa [List.append_nil] at this
theorem mt_star_app {x : RX} {s t : List UInt8} (h : Mt (.star x) s) (h2 : Mt (.star x) t) : Mt (.star x) (s ++ t) := by
  obtain ⟨L, hL, rfl⟩ := star_list h rfl
  obtain ⟨M, hM, rfl⟩ := star_list h2 rfl
  rw [← List.flatten_append]
  refine star_of _ fun t ht => ?_
  rcases List.mem_append.1 ht with h | h
  · exact hL t h
  · exact hM t h
theorem mt_star_none {s : List UInt8} : Mt (.star none0) s ↔ s = [] := by
  constructor
  · intro h
    obtain ⟨L, hL, rfl⟩ := star_list h rfl
    cases L with
    | nil => rfl
    | cons t L => exact absurd (hL t (List.mem_cons_self ..)) mt_none
  · rintro rfl
    exact .star0 _
theorem mt_round {x : RX} {s : List UInt8} : Mt (.cat [.star none0, x, .empty]) s ↔ Mt x s := by
  constructor
  · intro h
    obtain ⟨u, v, rfl, h1, h2⟩ := mtL_cons_inv (mt_cat_inv h)
    obtain ⟨v, w, rfl, h2, h3⟩ := mtL_cons_inv h2
    rw [mt_star_none.1 h1, mt_empty.1 (mtL_one.1 h3), List.nil_append, List.append_nil]
    exact h2
  · intro h
    have := MtL.cons (.star none0) [x, .empty] [] (s ++ []) (.star0 _) (.cons x [.empty] s [] h (mtL_one.2 .empty))
    rw [List.nil_append, List.append_nil] at this
    exact .cat _ _ this

theorem mtB_eq {x : RX} {s : List UInt8} {b : Bool} (h : Mt x s ↔ b = true) : mtB x s = b := by
  rw [Bool.eq_iff_iff, mtB_iff]; exact h
theorem mtB_bar (x y : RX) (s : List UInt8) : mtB (.alt [x, y]) s = (mtB x s || mtB y s) := by
  refine mtB_eq ?_
  rw [mt_bar, Bool.or_eq_true, mtB_iff, mtB_iff]
theorem mtB_quest (x : RX) (s : List UInt8) : mtB (.alt [x, .empty]) s = (mtB x s || decide (s = [])) := by
  refine mtB_eq ?_
  rw [mt_bar, Bool.or_eq_true, mtB_iff, mt_empty, decide_eq_true_iff]
theorem mtB_none (s : List UInt8) : mtB none0 s = false := by
  refine mtB_eq ?_
  constructor
  · exact fun h => absurd h mt_none
  · intro h; cases h
theorem mtB_bar_none (x : RX) (s : List UInt8) : mtB (.alt [x, none0]) s = mtB x s := by rw [mtB_bar, mtB_none, Bool.or_false]
theorem mtB_pair_none (x : RX) (s : List UInt8) : mtB (.cat [x, none0]) s = false := by
  refine mtB_eq ?_
  rw [mt_pair]
  constructor
  · rintro ⟨u, v, _, _, h⟩; exact absurd h mt_none
  · intro h; cases h
theorem mtB_round (x : RX) (s : List UInt8) : mtB (.cat [.star none0, x, .empty]) s = mtB x s := by
  refine mtB_eq ?_
  rw [mt_round, mtB_iff]
/-- The ways to cut a text before place k. -/
noncomputable def cutB (x y : RX) (s : List UInt8) (k : Nat) : Bool := (List.range k).any fun i => mtB x (s.take i) && mtB y (s.drop i)
theorem cut_succ (x y : RX) (s : List UInt8) (k : Nat) : cutB x y s (k + 1) = (cutB x y s k || (mtB x (s.take k) && mtB y (s.drop k))) := by
  unfold cutB
  rw [List.range_succ, List.any_append]
  simp
theorem mtB_pair (x y : RX) (s : List UInt8) : mtB (.cat [x, y]) s = cutB x y s (s.length + 1) := by
  refine mtB_eq ?_
  rw [mt_pair]
  unfold cutB
  rw [List.any_eq_true]
  constructor
  · rintro ⟨u, v, rfl, h1, h2⟩
    refine ⟨u.length, List.mem_range.2 (by simp; omega), ?_⟩
    rw [List.take_left, List.drop_left, Bool.and_eq_true, mtB_iff, mtB_iff]
    exact ⟨h1, h2⟩
  · rintro ⟨k, hk, h⟩
    rw [Bool.and_eq_true, mtB_iff, mtB_iff] at h
    exact ⟨s.take k, s.drop k, (List.take_append_drop k s).symm, h.1, h.2⟩
theorem mtB_star0 (x : RX) : mtB (.star x) [] = true := (mtB_iff _ _).2 (.star0 x)
theorem mtB_star_one (x : RX) (s : List UInt8) : (!mtB x s || mtB (.star x) s) = true := by
  cases h : mtB x s with
  | false => rfl
  | true => rw [(mtB_iff _ _).2 (mt_star_one ((mtB_iff _ _).1 h))]; rfl
theorem mtB_star_app (x : RX) (s t : List UInt8) : (!mtB (.star x) s || !mtB (.star x) t || mtB (.star x) (s ++ t)) = true := by
  cases h : mtB (.star x) s with
  | false => rfl
  | true =>
    cases h2 : mtB (.star x) t with
    | false => rfl
    | true => rw [(mtB_iff _ _).2 (mt_star_app ((mtB_iff _ _).1 h) ((mtB_iff _ _).1 h2))]; rfl
end Go.Proofs.X3
