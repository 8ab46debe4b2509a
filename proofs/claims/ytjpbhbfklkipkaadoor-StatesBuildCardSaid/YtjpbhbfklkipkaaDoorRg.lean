/- What items come to, as the document has it: the mathematics. -/
import Derived.Test.YtjpbhbfklkipkaaDoorRf
import Derived.Test.YtjpbhbfklkipkaaDoorRc
namespace Go.Proofs.X14
open Go.Proofs.YtjpbhbfklkipkaaDoor (GD PD validB isV behV prodB valid_parts)
set_option linter.unusedVariables false
theorem nodup_le : ∀ {l m : List It}, l.Nodup → (∀ x ∈ l, x ∈ m) → l.length ≤ m.length
  | [], m, _, _ => Nat.zero_le _
  | x :: r, m, hn, hs => by
    obtain ⟨h1, h2⟩ := List.nodup_cons.1 hn
    have hx := hs x (by simp)
    have := nodup_le (m := m.erase x) h2 fun y hy => by
      exact (List.mem_erase_of_ne fun e : y = x => h1 (e ▸ hy)).2 (hs y (by simp [hy]))
    rw [List.length_erase_of_mem hx] at this
    have := List.length_pos_of_mem hx
    rw [List.length_cons]
    omega
theorem right_le {G : GD} (hv : validB G = true) {q : Int} (h0 : -1 ≤ q) (h1 : q < (G.prods.length : Int)) : (rightX G q).length ≤ 12 := by
  unfold rightX
  split
  · show (1 : Nat) ≤ 12; omega
  · have hq : q.toNat < G.prods.length := by omega
    obtain ⟨_, _, _, hp, _⟩ := valid_parts hv
    have hm : G.prods.getD q.toNat default ∈ G.prods := by
      rw [List.getD_eq_getElem?_getD, List.getElem?_eq_getElem hq]
      exact List.getElem_mem hq
    have := List.all_eq_true.1 hp _ hm
    unfold prodB at this
    simp only [Bool.and_eq_true, decide_eq_true_eq] at this
    omega
theorem flat_len {α : Type} (f : Nat → List α) (c : Nat) : ∀ l : List Nat, (∀ q ∈ l, (f q).length ≤ c) → (l.flatMap f).length ≤ l.length * c
  | [], _ => by simp
  | q :: l, h => by
    rw [List.flatMap_cons, List.length_append, List.length_cons, Nat.succ_mul]
    have h1 := h q (by simp)
    have h2 := flat_len f c l fun r hr => h r (by simp [hr])
    omega
theorem allI_len {G : GD} (hv : validB G = true) : (allI G).length ≤ 1573 := by
  unfold allI
  refine Nat.le_trans (flat_len _ 13 _ fun q hq => ?_) ?_
  · rw [List.length_map, List.length_range]
    have := List.mem_range.1 hq
    have := right_le hv (q := (q : Int) - 1) (by omega) (by omega)
    omega
  · rw [List.length_range]
    have := (valid_parts hv).2.2.1
    omega
open Classical in
noncomputable def closeV (G : GD) (l : List It) : List It := if validB G = true then closeX G l else []
noncomputable def stepV (G : GD) (l : List It) (s : Int) : List It := stepX G (closeV G l) s
theorem closeV_rise (G : GD) (l : List It) : Rise (closeV G l) := by
  unfold closeV
  split
  · exact (closeX_is G l).1
  · exact List.Pairwise.nil
theorem mem_closeV {G : GD} {l : List It} {x : It} : x ∈ closeV G l ↔ validB G = true ∧ InC G l x := by
  unfold closeV
  split
  · rename_i h
    rw [(closeX_is G l).2 x]
    exact ⟨fun k => ⟨h, k⟩, fun k => k.2⟩
  · rename_i h
    exact ⟨fun k => by simp at k, fun k => absurd k.1 h⟩
theorem Rise.nodup {l : List It} (h : Rise l) : l.Nodup := List.Pairwise.imp (fun {a b} (hab : Less a b) (e : a = b) => Less.irrefl (e ▸ hab : Less b b)) h
theorem closeV_len (G : GD) (l : List It) : (closeV G l).length ≤ 1573 := by
  unfold closeV
  split
  · rename_i h
    exact Nat.le_trans (nodup_le (closeX_is G l).1.nodup fun x hx => mem_allI (((closeX_is G l).2 x).1 hx).there) (allI_len h)
  · exact Nat.zero_le _
theorem stepV_len (G : GD) (l : List It) (s : Int) : (stepV G l s).length ≤ 1573 := by
  unfold stepV stepX
  rw [List.length_map]
  exact Nat.le_trans (List.length_filter_le _ _) (closeV_len G l)
/-- While items are gathered. -/
structure GaX (G : GD) (l O : List It) (i : Nat) : Prop where
  inn : ∀ x ∈ O, isV G x = true ∧ x ∈ l
  base : ∀ x ∈ l.take i, isV G x = true → x ∈ O
  nd : O.Nodup
theorem GaX.start (G : GD) (l : List It) : GaX G l [] 0 := ⟨by simp, by simp, List.nodup_nil⟩
theorem GaX.skip {G : GD} {l O : List It} {i : Nat} {x : It} (h : GaX G l O i) (hx : l[i]? = some x) (hn : isV G x = true → x ∈ O) : GaX G l O (i + 1) :=
  ⟨h.inn, fun y hy hv => by
    rcases mem_take_succ hx hy with e | e
    · exact h.base y e hv
    · rw [e] at hv ⊢; exact hn hv, h.nd⟩
theorem GaX.put {G : GD} {l O : List It} {i : Nat} {x : It} (h : GaX G l O i) (hx : l[i]? = some x) (hv : isV G x = true) (hn : x ∉ O) : GaX G l (O ++ [x]) (i + 1) :=
  ⟨fun y hy => by
    rcases List.mem_append.1 hy with e | e
    · exact h.inn y e
    · obtain rfl : y = x := by simpa using e
      exact ⟨hv, List.mem_of_getElem? hx⟩, fun y hy hv => by
    rcases mem_take_succ hx hy with e | e
    · exact List.mem_append_left _ (h.base y e hv)
    · rw [e]; simp, List.nodup_append.2 ⟨h.nd, by simp, fun a ha b hb => by
      obtain rfl : b = x := by simpa using hb
      exact fun e => hn (e ▸ ha)⟩⟩
theorem isV_iff {G : GD} {x : It} : isV G x = true ↔ validB G = true ∧ thereX G x = true := by unfold isV; exact Bool.and_eq_true_iff
theorem in_len {G : GD} {O : List It} (hn : O.Nodup) (h : ∀ x ∈ O, isV G x = true) : O.length ≤ 1573 := by
  cases O with
  | nil => exact Nat.zero_le _
  | cons x r =>
    have hv := (isV_iff.1 (h x (by simp))).1
    exact Nat.le_trans (nodup_le hn fun y hy => mem_allI (isV_iff.1 (h y hy)).2) (allI_len hv)
/-- While what they begin with is put behind them. -/
structure ReX (G : GD) (l O : List It) (i : Nat) : Prop where
  inn : ∀ x ∈ O, validB G = true ∧ InC G l x
  base : ∀ x ∈ l, isV G x = true → x ∈ O
  nd : O.Nodup
  done : ∀ (j : Nat) (x : It) (s : Int) (p : Nat), j < i → O[j]? = some x → behX G x = some s → s < 0 → p < G.prods.length → sortX G p = -1 - s → ((p : Int), 0) ∈ O
theorem GaX.re {G : GD} {l O : List It} (h : GaX G l O l.length) : ReX G l O 0 :=
  ⟨fun x hx => ⟨(isV_iff.1 (h.inn x hx).1).1, .base x (h.inn x hx).2 (isV_iff.1 (h.inn x hx).1).2⟩, fun x hx hv => h.base x (by rw [List.take_length]; exact hx) hv, h.nd, fun j x s p hj => absurd hj (Nat.not_lt_zero j)⟩
theorem ReX.len {G : GD} {l O : List It} {i : Nat} (h : ReX G l O i) : O.length ≤ 1573 := in_len h.nd fun x hx => isV_iff.2 ⟨(h.inn x hx).1, (h.inn x hx).2.there⟩
theorem ReX.next {G : GD} {l O : List It} {i : Nat} {x : It} (h : ReX G l O i) (hx : O[i]? = some x) (hd : ∀ (s : Int) (p : Nat), behX G x = some s → s < 0 → p < G.prods.length → sortX G p = -1 - s → ((p : Int), 0) ∈ O) : ReX G l O (i + 1) :=
  ⟨h.inn, h.base, h.nd, fun j y s p hj hy hb hs hp he => by
    by_cases hji : j < i
    · exact h.done j y s p hji hy hb hs hp he
    · obtain rfl : j = i := by omega
      rw [hx] at hy
      injection hy with hy
      subst hy
      exact hd s p hb hs hp he⟩
theorem ReX.put {G : GD} {l O : List It} {i p : Nat} {x : It} {s : Int} (h : ReX G l O i) (hx : x ∈ O) (hi : i ≤ O.length) (hb : behX G x = some s) (hs : s < 0) (hp : p < G.prods.length) (he : sortX G p = -1 - s) (hn : ((p : Int), (0 : Int)) ∉ O) : ReX G l (O ++ [((p : Int), 0)]) i :=
  ⟨fun y hy => by
    rcases List.mem_append.1 hy with e | e
    · exact h.inn y e
    · obtain rfl : y = ((p : Int), 0) := by simpa using e
      exact ⟨(h.inn x hx).1, .more x s p (h.inn x hx).2 hb hs hp he⟩, fun y hy hv => List.mem_append_left _ (h.base y hy hv), List.nodup_append.2 ⟨h.nd, by simp, fun a ha b hb => by
      obtain rfl : b = ((p : Int), 0) := by simpa using hb
      exact fun e => hn (e ▸ ha)⟩, fun j y s' q hj hy hb' hs' hq he' => by
    rw [List.getElem?_append_left (by omega)] at hy
    exact List.mem_append_left _ (h.done j y s' q hj hy hb' hs' hq he')⟩
theorem ReX.close {G : GD} {l O L : List It} {i : Nat} (h : ReX G l O i) (hi : O.length ≤ i) (hr : Rise L) (hm : ∀ x, x ∈ L ↔ x ∈ O) : L = closeV G l := by
  refine hr.eq (closeV_rise G l) fun x => ?_
  rw [hm x, mem_closeV]
  refine ⟨h.inn x, fun hvx => ?_⟩
  obtain ⟨hv, hx⟩ := hvx
  induction hx with
  | base x hx ht => exact h.base x hx (isV_iff.2 ⟨hv, ht⟩)
  | more x s p hx hb hs hp he ih =>
    obtain ⟨j, hj, e⟩ := List.mem_iff_getElem.1 ih
    exact h.done j x s p (by omega) (by rw [List.getElem?_eq_getElem hj, e]) hb hs hp he
end Go.Proofs.X14
