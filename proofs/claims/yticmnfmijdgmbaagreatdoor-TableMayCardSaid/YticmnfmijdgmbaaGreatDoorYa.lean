/- What is ahead: the mathematics of the laws. -/
import Derived.Test.YticmnfmijdgmbaaGreatDoorXe
import Derived.Test.YticmnfmijdgmbaaGreatDoorZr
import Derived.Test.YticmnfmijdgmbaaGreatDoorQMl
namespace Go.Proofs.YticmnfmijdgmbaaGreatDoor.S13
open X14 (It exG)
set_option linter.unusedVariables false
set_option linter.unusedSimpArgs false
namespace X15
open X14 (rightX behX sortX closeX stepX iterB BuiltOk symsX InC thereX)
theorem row_some {G : GD} (hV : validB G = true) {E L : List Bool} {F : List Nat} (hE : Least false G.prods G.sorts.length E) (hL : Least true G.prods G.sorts.length L) (hF : LeastS (evF G.terms.length E G.prods) G.sorts.length F) (hlive : ∀ i, i < G.sorts.length → L.getD i false = true)
  {b : Nat} (hb : b ≠ 0) : ∀ (l : List Int), RowOk G.terms.length G.sorts.length l → ofRow G.terms.length E F l b ≠ 0
 | [], _ => hb
 | s :: l, hr => by
  have ih := row_some hV hE hL hF hlive hb l (fun x hx => hr x (List.mem_cons_of_mem _ hx))
  have hs := hr s List.mem_cons_self
  obtain ⟨n60, _, _⟩ := valid_few hV
  unfold ofRow
  by_cases h0 : 0 ≤ s
  ·rw [if_pos h0, if_pos (by omega)]
   exact bitN_ne h0 (by omega)
  ·rw [if_neg h0, if_neg (by rw [hF.length]; omega)]
   rcases lives_begins hV hE hL hF (-1 - s).toNat (hlive _ (by omega)) with h1 | h1
   ·rw [if_pos h1]
    exact fun h => ih (or_zero_right h)
   ·exact fun h => h1 (or_zero_left h)
theorem rest_ok {G : GD} (hV : validB G = true) {x : It} (hx : thereX G x = true) : RowOk G.terms.length G.sorts.length (restX G x) := by
 intro s hs
 obtain ⟨t1, t2, t3, t4⟩ := X14.there_iff.1 hx
 have hs := List.mem_of_mem_drop hs
 unfold rightX at hs
 by_cases h : x.1 = -1
 ·rw [if_pos h] at hs
  obtain rfl : s = -1 - G.start := by simpa using hs
  have := valid_start hV
  omega
 ·rw [if_neg h] at hs
  have hlt : x.1.toNat < G.prods.length := by omega
  have hmem : G.prods.getD x.1.toNat default ∈ G.prods := by
   rw [List.getD_eq_getElem?_getD, List.getElem?_eq_getElem hlt]; exact List.getElem_mem _
  exact (valid_rows hV _ hmem).2.2 s hs
theorem ahead_some {G : GD} {n : Nat} {E L : List Bool} {F : List Nat} {A : Pl → Nat} (hV : validB G = true) (hb : BuiltOk G n) (hS : SymOk G) (hE : Least false G.prods G.sorts.length E) (hL : Least true G.prods G.sorts.length L) (hF : LeastS (evF G.terms.length E G.prods) G.sorts.length F) (hlive : ∀ i, i < G.sorts.length → L.getD i false = true)
  (h : LeastA (askX (cxB G n E F)) (places (cxB G n E F) n) (0, (-1, 0)) (bitN 63) A) : ∀ (i : Nat), i < n → ∀ x ∈ (cxB G n E F).C i, A (i, x) ≠ 0 := by
 intro i
 induction i using Nat.strongRecOn with
 | ind i ih =>
  intro hi x hx
  have hker : ∀ x, x ∈ (iterB G n).ker.getD i [] → thereX G x = true → A (i, x) ≠ 0 := by
   intro x hx ht
   obtain ⟨hI, ha, hl⟩ := hb.inv
   rcases Nat.eq_zero_or_pos i with e | e
   ·subst e
    rw [X14.getD_get hI.first] at hx
    obtain rfl : x = (-1, 0) := by simpa using hx
    intro e
    have h1 := h.start
    rw [e] at h1
    exact bitN_ne (s := 63) (by omega) (by omega) (sub_antisymm h1 (zero_sub _))
   ·obtain ⟨j, k, R, a1, a2, a3, a4, a5⟩ := hI.come i e (by omega)
    obtain ⟨s, hs⟩ : ∃ s, (symsX G)[k]? = some s := ⟨_, List.getElem?_eq_getElem a5⟩
    rcases hI.to_ a1 hs a3 a4 with ⟨e1, _⟩ | ⟨q, e1, _, _, e4⟩
    ·omega
    ·obtain rfl : i = q := by omega
     rw [X14.getD_get e4] at hx
     obtain ⟨y, hy, hby, rfl⟩ := X14.mem_step.1 hx
     have hyC : y ∈ (cxB G n E F).C j := hy
     obtain ⟨q2, g1, g2, g3, g4, g5⟩ := go_built (E := E) (F := F) hb hS (show j < n by omega) hyC hby
     have hq : q2 = i := by
      have : (iterB G n).ker[q2]? = (iterB G n).ker[i]? := g5.trans e4.symm
      exact (List.getElem?_inj (by rw [hl]; exact g4) hI.kers.nd).1 this
     subst hq
     have h1 := ih j a2 (by omega) y hyC
     have h2 := h.goto_ (show j < n by omega) hyC hby
     rw [g2] at h2
     intro e0
     rw [e0] at h2
     exact h1 (sub_antisymm h2 (zero_sub _))
  have hin : InC G ((iterB G n).ker.getD i []) x := mem_C.1 hx
  clear hx
  induction hin with
  | base x hx ht => exact hker x hx ht
  | more x s p hx hbx hs hp he ihx =>
   have h1 := h.more (s := s) (q := p) hi (mem_C.2 hx) hbx hs hp he
   intro e0
   rw [e0] at h1
   exact row_some hV hE hL hF hlive ihx _ (rest_ok hV hx.there) (sub_antisymm h1 (zero_sub _))
def cntW (l : List It) : Nat := (l.filter fun x => decide (x.1 = -1)).length
def cntS (C : Nat → List It) (n : Nat) : Nat := ((List.range n).map fun i => cntW (C i)).sum
end X15
end Go.Proofs.YticmnfmijdgmbaaGreatDoor.S13
