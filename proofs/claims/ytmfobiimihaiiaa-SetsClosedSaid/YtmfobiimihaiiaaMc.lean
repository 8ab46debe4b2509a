/- Plain mathematics: the sets are closed. -/
import Derived.Test.YtmfobiimihaiiaaMf
namespace Go.Proofs.Ytmfobiimihaiiaa

theorem closed_follow {G : GD} {E : List Bool} {F L : List Nat} (hF : LeastS (evF G.terms.length E G.prods) G.sorts.length F) (hL : LeastS (evW G.terms.length E F G.start G.prods) G.sorts.length L) {j k : Nat} (hj : j < G.prods.length)
    (hk : k < (G.prods.getD j default).rs.length) (hn : (G.prods.getD j default).rs.getD k 0 < 0) :
    inN (ofRow G.terms.length E F ((G.prods.getD j default).rs.drop (k + 1)) (L.getD (G.prods.getD j default).sort.toNat 0)) (L.getD (-1 - (G.prods.getD j default).rs.getD k 0).toNat 0) = true :=
  (inN_iff (ofRow_lt _ E hF.2.2 _ (getD_lt hL.2.2 _))).2 (follow_closed hL hj hk hn)
theorem getD_mem {ps : List PD} {j : Nat} (hj : j < ps.length) : ps.getD j default ∈ ps := by
  rw [List.getD_eq_getElem?_getD, List.getElem?_eq_getElem hj]; exact List.getElem_mem _
theorem closed_bool {k : Bool} {ps : List PD} {n : Nat} {E : List Bool} (hE : Least k ps n E) {j : Nat} (hj : j < ps.length) (ha : (ps.getD j default).rs.all (isK k E) = true) : E.getD (ps.getD j default).sort.toNat false = true :=
  hE.2 _ (getD_mem hj) ha
theorem closed_first {G : GD} {E : List Bool} {F : List Nat} (hF : LeastS (evF G.terms.length E G.prods) G.sorts.length F) {j : Nat} (hj : j < G.prods.length) :
    inN (ofRow G.terms.length E F (G.prods.getD j default).rs 0) (F.getD (G.prods.getD j default).sort.toNat 0) = true :=
  (inN_iff (ofRow_lt _ E hF.2.2 _ (by decide))).2 (hF.2.1 _ (List.mem_map.2 ⟨_, getD_mem hj, rfl⟩))
theorem closed_start {nt n : Nat} {E : List Bool} {F L : List Nat} {st : Int} {ps : List PD} (hL : LeastS (evW nt E F st ps) n L) : hasN (L.getD st.toNat 0) 63 = true :=
  hasN_of (by decide) (by decide) (hL.2.1 (st.toNat, fun _ => bitN 63) List.mem_cons_self)

end Go.Proofs.Ytmfobiimihaiiaa
