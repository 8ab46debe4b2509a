/- One pass over a grammar's productions, that tells what follows. -/
import Derived.Test.YtmfobiimihaiiaaHi
import Derived.Test.YtmfobiimihaiiaaHx
namespace Go.Proofs.Ytmfobiimihaiiaa
open Go Go.RowKit Go.Lib Go.Joins

/-- What is told of what follows, by one symbol. -/
def evSym (nt : Nat) (E : List Bool) (F : List Nat) (p : PD) (k : Nat) : List Ev :=
  if p.rs.getD k 0 < 0 then [((-1 - p.rs.getD k 0).toNat, fun L => ofRow nt E F (p.rs.drop (k + 1)) (L.getD p.sort.toNat 0))] else []
/-- By the first symbols of a production. -/
def evUpto (nt : Nat) (E : List Bool) (F : List Nat) (p : PD) (k : Nat) : List Ev := (List.range k).flatMap (evSym nt E F p)
/-- By all productions. -/
def evAll (nt : Nat) (E : List Bool) (F : List Nat) (ps : List PD) : List Ev := ps.flatMap fun p => evUpto nt E F p p.rs.length
def evW (nt : Nat) (E : List Bool) (F : List Nat) (st : Int) (ps : List PD) : List Ev := (st.toNat, fun _ => bitN 63) :: evAll nt E F ps

theorem evUpto_yes {nt : Nat} {E : List Bool} {F : List Nat} {p : PD} {k : Nat} (h : p.rs.getD k 0 < 0) :
    evUpto nt E F p (k + 1) = evUpto nt E F p k ++ [((-1 - p.rs.getD k 0).toNat, fun L => ofRow nt E F (p.rs.drop (k + 1)) (L.getD p.sort.toNat 0))] := by
  unfold evUpto
  rw [List.range_succ, List.flatMap_append]
  simp only [List.flatMap_cons, List.flatMap_nil, List.append_nil]
  unfold evSym
  rw [if_pos h]
theorem evUpto_no {nt : Nat} {E : List Bool} {F : List Nat} {p : PD} {k : Nat} (h : ¬ (p.rs.getD k 0 < 0)) : evUpto nt E F p (k + 1) = evUpto nt E F p k := by
  unfold evUpto
  rw [List.range_succ, List.flatMap_append]
  simp only [List.flatMap_cons, List.flatMap_nil, List.append_nil]
  unfold evSym
  rw [if_neg h, List.append_nil]
theorem evAll_snoc {nt : Nat} {E : List Bool} {F : List Nat} {ps : List PD} {j : Nat} (h : j < ps.length) :
    evAll nt E F (ps.take (j + 1)) = evAll nt E F (ps.take j) ++ evUpto nt E F (ps.getD j default) (ps.getD j default).rs.length := by
  unfold evAll
  rw [List.take_add_one, List.flatMap_append, List.getD_eq_getElem?_getD, List.getElem?_eq_getElem h]
  simp
theorem evSym_mem {nt : Nat} {E : List Bool} {F : List Nat} {ps : List PD} {st : Int} {j k : Nat} (h : j < ps.length) (hk : k < (ps.getD j default).rs.length) (hn : (ps.getD j default).rs.getD k 0 < 0) :
    ((-1 - (ps.getD j default).rs.getD k 0).toNat, fun L : List Nat => ofRow nt E F ((ps.getD j default).rs.drop (k + 1)) (L.getD (ps.getD j default).sort.toNat 0)) ∈ evW nt E F st ps := by
  refine List.mem_cons_of_mem _ (List.mem_flatMap.2 ⟨ps.getD j default, by rw [List.getD_eq_getElem?_getD, List.getElem?_eq_getElem h]; exact List.getElem_mem _, List.mem_flatMap.2 ⟨k, by simpa using hk, ?_⟩⟩)
  unfold evSym
  rw [if_pos hn]
  simp

/-- What is left of a row behind some of it. -/
def cutV (b off n c k : Nat) : Value := .slice (if c = k then some ⟨b, off, none⟩ else some ⟨b, off + k, none⟩) (n - k) (c - k)
theorem run_cut (b off n c q : Nat) (hq : q + 1 ≤ n) (w : World) : (Instr.slice 28 (.slice (some ⟨b, off, none⟩) n c) (some (.int .i64 ((q : Int) + 1))) none none).run Try.prog w = .ok (cutV b off n c (q + 1)) w := by
  rw [run_slice_l w 28 (some ⟨b, off, none⟩) n c (by kernel_rfl) .i64 _ (by omega) (by omega)]
  have e1 : (sizeOf (Try.prog.elem 28)).run Try.prog w = .ok 1 w := by kernel_rfl
  rw [e1]
  simp only [Result.andThen, sliced]
  rw [show ((q : Int) + 1).toNat = q + 1 by omega]
  unfold cutV
  by_cases h : c = q + 1 <;> simp [h, Addr.add]
theorem cut_at {w : World} {b off n c : Nat} {l : List Int} (h : ∀ i, i < l.length → w.cell? ⟨b, off + i, none⟩ = some (.int .i64 (l.getD i 0))) (hl : l.length = n) (hr : ∀ x ∈ l, -9223372036854775808 ≤ x ∧ x ≤ 9223372036854775807) (hn : n ≤ 9223372036854775807) (hc : n ≤ c) (k : Nat) :
    IntsAt w (cutV b off n c k) (l.drop k) := by
  refine ⟨⟨_, _, by unfold cutV; rw [List.length_drop, hl], by rw [List.length_drop]; omega, fun h0 => ?_⟩, fun x hx => hr x (List.mem_of_mem_drop hx)⟩
  rw [List.length_drop, hl] at h0
  refine ⟨b, off + k, by rw [if_neg (by omega)], fun i hi => ?_⟩
  rw [List.length_drop] at hi
  have := h (k + i) (by omega)
  rw [Nat.add_assoc, this]
  simp [List.getD_eq_getElem?_getD, List.getElem?_drop]

end Go.Proofs.Ytmfobiimihaiiaa
