/- Plain mathematics: what follows. -/
import Derived.Test.YtmfobiimihaiiaaMl
namespace Go.Proofs.Ytmfobiimihaiiaa

theorem follow_closed {G : GD} {E : List Bool} {F L : List Nat} (hL : LeastS (evW G.terms.length E F G.start G.prods) G.sorts.length L) {j k : Nat} (hj : j < G.prods.length) (hk : k < (G.prods.getD j default).rs.length)
    (hn : (G.prods.getD j default).rs.getD k 0 < 0) :
    Sub (ofRow G.terms.length E F ((G.prods.getD j default).rs.drop (k + 1)) (L.getD (G.prods.getD j default).sort.toNat 0)) (L.getD (-1 - (G.prods.getD j default).rs.getD k 0).toNat 0) :=
  hL.2.1 _ (evSym_mem (st := G.start) hj hk hn)

theorem drop_cons {l : List Int} {k : Nat} (h : k < l.length) : l.drop k = l.getD k 0 :: l.drop (k + 1) := by
  rw [List.drop_eq_getElem_cons h, List.getD_eq_getElem?_getD, List.getElem?_eq_getElem h]; rfl

theorem inN_iff {a b : Nat} (ha : a < top) : inN a b = true ↔ Sub a b := by
  unfold inN
  rw [decide_eq_true_eq, lessN_zero_iff ha, sub_iff]
  constructor
  · intro h i hi
    by_cases h64 : i < 64
    · exact h i h64 hi
    · rw [testBit_hi ha (by omega)] at hi; cases hi
  · exact fun h i _ hi => h i hi
theorem hasN_of {a : Nat} {n : Int} (h0 : 0 ≤ n) (h1 : n < 64) (h : Sub (bitN n) a) : hasN a n = true := by
  unfold hasN
  rw [decide_eq_true_eq, and_bitN_ne]
  refine ⟨h0, h1, sub_iff.1 h _ ?_⟩
  rw [testBit_bitN, decide_eq_true_eq]
  omega

/-- At the end of a row. -/
theorem follow_end {G : GD} {E : List Bool} {F L : List Nat} (hL : LeastS (evW G.terms.length E F G.start G.prods) G.sorts.length L) {j k : Nat} (hj : j < G.prods.length) (hk : k + 1 = (G.prods.getD j default).rs.length)
    (hn : (G.prods.getD j default).rs.getD k 0 < 0) : inN (L.getD (G.prods.getD j default).sort.toNat 0) (L.getD (-1 - (G.prods.getD j default).rs.getD k 0).toNat 0) = true := by
  have := follow_closed hL hj (by omega) hn
  rw [List.drop_eq_nil_of_le (by omega)] at this
  exact (inN_iff (getD_lt hL.2.2 _)).2 this
theorem follow_term {G : GD} (hV : validB G = true) {E : List Bool} {F L : List Nat} (hL : LeastS (evW G.terms.length E F G.start G.prods) G.sorts.length L) {j k : Nat} (hj : j < G.prods.length) (hk : k + 1 < (G.prods.getD j default).rs.length)
    (hn : (G.prods.getD j default).rs.getD k 0 < 0) (h0 : 0 ≤ (G.prods.getD j default).rs.getD (k + 1) 0) : hasN (L.getD (-1 - (G.prods.getD j default).rs.getD k 0).toNat 0) ((G.prods.getD j default).rs.getD (k + 1) 0) = true := by
  have := follow_closed hL hj (by omega) hn
  obtain ⟨n60, _, _⟩ := valid_few hV
  have hs := (prodB_sortNat (valid_prod hV hj)).2.2.2 _ (mem_getD hk)
  rw [drop_cons hk] at this
  unfold ofRow at this
  rw [if_pos h0, if_pos (by omega)] at this
  exact hasN_of h0 (by omega) this
theorem follow_sort {G : GD} (hV : validB G = true) {E : List Bool} {F L : List Nat} (hF : LeastS (evF G.terms.length E G.prods) G.sorts.length F) (hL : LeastS (evW G.terms.length E F G.start G.prods) G.sorts.length L) {j k : Nat} (hj : j < G.prods.length)
    (hk : k + 1 < (G.prods.getD j default).rs.length) (hn : (G.prods.getD j default).rs.getD k 0 < 0) (h0 : (G.prods.getD j default).rs.getD (k + 1) 0 < 0) :
    inN (F.getD (-1 - (G.prods.getD j default).rs.getD (k + 1) 0).toNat 0) (L.getD (-1 - (G.prods.getD j default).rs.getD k 0).toNat 0) = true := by
  have := follow_closed hL hj (by omega) hn
  have hs := (prodB_sortNat (valid_prod hV hj)).2.2.2 _ (mem_getD hk)
  have hl := hF.length
  rw [drop_cons hk] at this
  unfold ofRow at this
  rw [if_neg (by omega), if_neg (by omega)] at this
  exact (inN_iff (getD_lt hF.2.2 _)).2 (sub_trans (sub_or_left _ _) this)

end Go.Proofs.Ytmfobiimihaiiaa
