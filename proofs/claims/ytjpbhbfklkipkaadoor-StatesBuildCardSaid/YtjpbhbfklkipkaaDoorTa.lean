/- The document's example: the mathematics; the example's grammar, laid. -/
import Derived.Test.YtjpbhbfklkipkaaDoorSy
namespace Go.Proofs.X14
open Go.Proofs.YtjpbhbfklkipkaaDoor (GD PD validB)
set_option linter.unusedVariables false
theorem IsClose.of {G : GD} {l c : List It} (h1 : Rise c) (h2 : ∀ x ∈ c, InC G l x) (h3 : ∀ x ∈ l, thereX G x = true → x ∈ c) (h4 : ∀ x ∈ c, ∀ s, behX G x = some s → s < 0 → ∀ p, p < G.prods.length → sortX G p = -1 - s → ((p : Int), 0) ∈ c) : IsClose G l c :=
  ⟨h1, fun x => ⟨h2 x, fun hx => by
    induction hx with
    | base x hx ht => exact h3 x hx ht
    | more x s p hx hb hs hp he ih => exact h4 x ih s hb hs p hp he⟩⟩
/-- The example's grammar. -/
def exG : GD := ⟨[⟨#[97]⟩], [], [⟨#[83]⟩], [⟨⟨#[112]⟩, 0, [0], 0⟩], 0⟩
theorem ex_beh0 : behX exG (-1, 0) = some (-1) := by decide
theorem ex_beh1 : behX exG (0, 0) = some 0 := by decide
theorem ex_c0 : closeX exG [(-1, 0)] = [(-1, 0), (0, 0)] := by
  refine (closeX_eq (IsClose.of ?_ ?_ ?_ ?_)).symm
  · unfold Rise
    refine List.pairwise_cons.2 ⟨fun x hx => ?_, List.pairwise_singleton _ _⟩
    obtain rfl : x = (0, 0) := by simpa using hx
    exact .inl (by decide)
  · intro x hx
    have h0 : InC exG [(-1, 0)] (-1, 0) := .base _ (by simp) (by decide)
    rcases List.mem_cons.1 hx with e | e
    · rw [e]; exact h0
    · obtain rfl : x = (0, 0) := by simpa using e
      exact .more _ (-1) 0 h0 ex_beh0 (by decide) (by decide) (by decide)
  · intro x hx _
    obtain rfl : x = (-1, 0) := by simpa using hx
    simp
  · intro x hx s hb hs p hp he
    obtain rfl : p = 0 := by have : p < 1 := hp; omega
    simp
theorem ex_c1 : closeX exG [(0, 1)] = [(0, 1)] := by
  refine (closeX_eq (IsClose.of (List.pairwise_singleton _ _) (fun x hx => .base x hx ?_) (fun x hx _ => hx) fun x hx s hb hs p hp he => ?_)).symm
  · obtain rfl : x = (0, 1) := by simpa using hx
    decide
  · obtain rfl : x = (0, 1) := by simpa using hx
    rw [show behX exG (0, 1) = none from by decide] at hb
    cases hb
theorem ex_c2 : closeX exG [(-1, 1)] = [(-1, 1)] := by
  refine (closeX_eq (IsClose.of (List.pairwise_singleton _ _) (fun x hx => .base x hx ?_) (fun x hx _ => hx) fun x hx s hb hs p hp he => ?_)).symm
  · obtain rfl : x = (-1, 1) := by simpa using hx
    decide
  · obtain rfl : x = (-1, 1) := by simpa using hx
    rw [show behX exG (-1, 1) = none from by decide] at hb
    cases hb
theorem ex_i1 : (iterB exG 1).ker = [[(-1, 0)], [(0, 1)], [(-1, 1)]] ∧ (iterB exG 1).nx = [[1, 2]] := by
  obtain ⟨h1, h2⟩ := iter_succ exG 0
  have e : (iterB exG 0).ker.getD 0 [] = [(-1, 0)] := rfl
  rw [e, ex_c0] at h1 h2
  exact ⟨h1.trans (by decide), h2.trans (by decide)⟩
theorem ex_i2 : (iterB exG 2).ker = [[(-1, 0)], [(0, 1)], [(-1, 1)]] ∧ (iterB exG 2).nx = [[1, 2], [-1, -1]] := by
  obtain ⟨h1, h2⟩ := iter_succ exG 1
  have e : (iterB exG 1).ker.getD 1 [] = [(0, 1)] := by rw [ex_i1.1]; rfl
  rw [e, ex_c1, ex_i1.1] at h1 h2
  rw [ex_i1.2] at h2
  exact ⟨h1.trans (by decide), h2.trans (by decide)⟩
theorem ex_i3 : (iterB exG 3).ker = [[(-1, 0)], [(0, 1)], [(-1, 1)]] ∧ (iterB exG 3).nx = [[1, 2], [-1, -1], [-1, -1]] := by
  obtain ⟨h1, h2⟩ := iter_succ exG 2
  have e : (iterB exG 2).ker.getD 2 [] = [(-1, 1)] := by rw [ex_i2.1]; rfl
  rw [e, ex_c2, ex_i2.1] at h1 h2
  rw [ex_i2.2] at h2
  exact ⟨h1.trans (by decide), h2.trans (by decide)⟩
theorem ex_ok : BuiltOk exG 3 := by
  refine ⟨⟨fun m hm => ?_, fun m hm => ?_⟩, by rw [ex_i3.1]; decide⟩
  · have : m = 0 ∨ m = 1 ∨ m = 2 := by omega
    rcases this with rfl | rfl | rfl
    · show 0 < 1; omega
    · rw [ex_i1.1]; decide
    · rw [ex_i2.1]; decide
  · have : m = 0 ∨ m = 1 ∨ m = 2 := by omega
    rcases this with rfl | rfl | rfl
    · rw [ex_i1.1]; decide
    · rw [ex_i2.1]; decide
    · rw [ex_i3.1]; decide
theorem ex_valid : validB exG = true := by decide
theorem ex_step : stepV exG (closeV exG [(-1, 0)]) 0 = [(0, 1)] := by
  have hv := ex_valid
  unfold stepV closeV
  rw [if_pos hv, if_pos hv, closeX_again, ex_c0]
  decide
theorem ex_close : closeV exG [(-1, 0)] = [(-1, 0), (0, 0)] := by
  have hv := ex_valid
  unfold closeV
  rw [if_pos hv, ex_c0]
end Go.Proofs.X14
namespace Go.Proofs.YtjpbhbfklkipkaaDoor
open Go Go.RowKit Go.Lib
open X14 (It exG)
set_option linter.unusedVariables false
set_option linter.unusedSimpArgs false
theorem ex_behV : behV exG (0, 0) = some 0 := by decide
theorem ex_go0 : goX exG [[1, 2], [-1, -1], [-1, -1]] 0 0 = 1 := by decide
theorem ex_go1 : goX exG [[1, 2], [-1, -1], [-1, -1]] 0 (-1) = 2 := by decide
theorem ex_go2 : goX exG [[1, 2], [-1, -1], [-1, -1]] 1 0 = -1 := by decide
/-- What Build answers, of the example. -/
theorem ex_build {w w' : World} {e : Ending} (h : BuildP exG w e w') : Below w.heap.size w w' ∧ ∃ av, e = .returned (.tuple #[av, .int .i64 0]) ∧ AutAt w' av [[(-1, 0)], [(0, 1)], [(-1, 1)]] [[1, 2], [-1, -1], [-1, -1]] := by
  obtain ⟨hb, h | ⟨_, n, h | ⟨h, av, e1, h2⟩⟩⟩ := h
  · rw [X14.ex_valid] at h
    cases h.1
  · exact (X14.Built.not X14.ex_ok h.1).elim
  · obtain rfl := X14.Built.one h X14.ex_ok
    rw [X14.ex_i3.1, X14.ex_i3.2] at h2
    exact ⟨hb, av, e1, h2⟩
theorem ex_nx : NxOk exG [[1, 2], [-1, -1], [-1, -1]] := by
  have := NxOk.built X14.ex_ok
  rw [X14.ex_i3.2] at this
  exact this
end Go.Proofs.YtjpbhbfklkipkaaDoor
