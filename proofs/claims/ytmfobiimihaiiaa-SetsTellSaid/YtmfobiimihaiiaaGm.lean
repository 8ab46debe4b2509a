/- Plain mathematics: truths that grow, by productions. -/
import Derived.Test.YtmfobiimihaiiaaGd
namespace Go.Proofs.Ytmfobiimihaiiaa

/-- What is told of a symbol: of a sort what is told of it, of a terminal always the same. -/
def isK (k : Bool) (L : List Bool) (s : Int) : Bool := if s < 0 then L.getD (-1 - s).toNat false else k
/-- One production's turn. -/
def stepB (k : Bool) (L : List Bool) (p : PD) : List Bool := L.set p.sort.toNat (L.getD p.sort.toNat false || p.rs.all (isK k L))
/-- What is come to by turns. -/
inductive Reach (k : Bool) (ps : List PD) (L0 : List Bool) : List Bool → Prop where
  | refl : Reach k ps L0 L0
  | step {L : List Bool} {p : PD} : Reach k ps L0 L → p ∈ ps → Reach k ps L0 (stepB k L p)
/-- No turn changes anything. -/
def Closed (k : Bool) (ps : List PD) (L : List Bool) : Prop := ∀ p ∈ ps, p.rs.all (isK k L) = true → L.getD p.sort.toNat false = true

theorem stepB_length (k : Bool) (L : List Bool) (p : PD) : (stepB k L p).length = L.length := by simp [stepB]
theorem set_same {L : List Bool} {i : Nat} : L.set i (L.getD i false) = L := by
  refine List.ext_getElem (by simp) fun j h1 h2 => ?_
  rw [List.getElem_set]
  split
  · rename_i e; subst e; rw [List.getD_eq_getElem?_getD, List.getElem?_eq_getElem h2]; rfl
  · rfl
theorem count_set : ∀ (L : List Bool) (i : Nat), i < L.length → L.getD i false = false → (L.set i true).count false + 1 = L.count false
  | [], i, h, _ => by simp at h
  | b :: L, 0, _, h => by
    have : b = false := by simpa using h
    subst this
    simp
  | b :: L, i + 1, h, h2 => by
    have ih := count_set L i (by simpa using h) (by simpa using h2)
    cases b <;> simp <;> omega
/-- A turn changes nothing, or makes one more true. -/
theorem step_cases (k : Bool) (L : List Bool) (p : PD) (h : p.sort.toNat < L.length) :
    (L.getD p.sort.toNat false != (L.getD p.sort.toNat false || p.rs.all (isK k L))) = false ∧ stepB k L p = L ∧ (p.rs.all (isK k L) = true → L.getD p.sort.toNat false = true) ∨
    (L.getD p.sort.toNat false != (L.getD p.sort.toNat false || p.rs.all (isK k L))) = true ∧ (stepB k L p).count false < L.count false := by
  unfold stepB
  cases h1 : L.getD p.sort.toNat false
  · cases h2 : p.rs.all (isK k L)
    · left
      refine ⟨rfl, ?_, by simp⟩
      have := set_same (L := L) (i := p.sort.toNat)
      rw [h1] at this
      exact this
    · right
      have := count_set L _ h h1
      exact ⟨rfl, by simp only [Bool.false_or]; omega⟩
  · left
    refine ⟨by cases p.rs.all (isK k L) <;> rfl, ?_, fun _ => rfl⟩
    have := set_same (L := L) (i := p.sort.toNat)
    rw [h1] at this
    simpa using this

/-- What is told of a pass that went as far as the production j. -/
def Passed (k : Bool) (ps : List PD) (L0 : List Bool) (j : Nat) (L : List Bool) (c : Bool) : Prop :=
  Reach k ps L0 L ∧ L.length = L0.length ∧ (c = false → L = L0 ∧ ∀ i, i < j → i < ps.length → (ps.getD i default).rs.all (isK k L0) = true → L0.getD (ps.getD i default).sort.toNat false = true) ∧ (c = true → L.count false < L0.count false) ∧ L.count false ≤ L0.count false

theorem passed_zero (k : Bool) (ps : List PD) (L0 : List Bool) : Passed k ps L0 0 L0 false :=
  ⟨.refl, rfl, fun _ => ⟨rfl, fun i h => absurd h (Nat.not_lt_zero i)⟩, fun h => (by cases h), Nat.le_refl _⟩
theorem passed_step {k : Bool} {ps : List PD} {L0 L : List Bool} {j : Nat} {c : Bool} (h : Passed k ps L0 j L c) (hj : j < ps.length) (hs : (ps.getD j default).sort.toNat < L0.length) :
    Passed k ps L0 (j + 1) (stepB k L (ps.getD j default)) (c || (L.getD (ps.getD j default).sort.toNat false != (L.getD (ps.getD j default).sort.toNat false || (ps.getD j default).rs.all (isK k L)))) := by
  obtain ⟨hr, hl, hf, ht, hm⟩ := h
  have hmem : ps.getD j default ∈ ps := by
    rw [List.getD_eq_getElem?_getD, List.getElem?_eq_getElem hj]; exact List.getElem_mem _
  have hR : Reach k ps L0 (stepB k L (ps.getD j default)) := .step hr hmem
  rcases step_cases k L (ps.getD j default) (by omega) with ⟨e1, e2, e3⟩ | ⟨e1, e2⟩
  · rw [e1, e2, Bool.or_false]
    refine ⟨hr, hl, fun hc => ?_, ht, hm⟩
    obtain ⟨rfl, hi⟩ := hf hc
    refine ⟨rfl, fun i hi1 hi2 => ?_⟩
    rcases Nat.lt_or_ge i j with h1 | h1
    · exact hi i h1 hi2
    · obtain rfl : i = j := by omega
      exact e3
  · rw [e1, Bool.or_true]
    exact ⟨hR, by rw [stepB_length]; exact hl, fun h => (by cases h), fun _ => by omega, by omega⟩
theorem passed_closed {k : Bool} {ps : List PD} {L0 L : List Bool} (h : Passed k ps L0 ps.length L false) : L = L0 ∧ Closed k ps L := by
  obtain ⟨_, _, hf, _, _⟩ := h
  obtain ⟨rfl, hi⟩ := hf rfl
  refine ⟨rfl, fun p hp => ?_⟩
  obtain ⟨j, hj, rfl⟩ := List.getElem_of_mem hp
  have := hi j hj hj
  rwa [List.getD_eq_getElem?_getD, List.getElem?_eq_getElem hj] at this

theorem reach_trans {k : Bool} {ps : List PD} {a b c : List Bool} (h1 : Reach k ps a b) (h2 : Reach k ps b c) : Reach k ps a c := by
  induction h2 with
  | refl => exact h1
  | step _ hp ih => exact .step ih hp
theorem reach_length {k : Bool} {ps : List PD} {a b : List Bool} (h : Reach k ps a b) : b.length = a.length := by
  induction h with
  | refl => rfl
  | step _ _ ih => rw [stepB_length, ih]

/-- One list within another. -/
def LeB (a b : List Bool) : Prop := ∀ i, a.getD i false = true → b.getD i false = true
theorem isK_mono {k : Bool} {a b : List Bool} (h : LeB a b) (s : Int) (hs : isK k a s = true) : isK k b s = true := by
  unfold isK at *
  split at hs
  · rename_i h0; rw [if_pos h0]; exact h _ hs
  · rename_i h0; rw [if_neg h0]; exact hs
theorem all_mono {k : Bool} {a b : List Bool} (h : LeB a b) (l : List Int) (hs : l.all (isK k a) = true) : l.all (isK k b) = true := by
  rw [List.all_eq_true] at *
  exact fun x hx => isK_mono h x (hs x hx)
/-- What is come to by turns is within all that is closed. -/
theorem reach_least {k : Bool} {ps : List PD} {a b M : List Bool} (h : Reach k ps a b) (ha : LeB a M) (hM : Closed k ps M) : LeB b M := by
  induction h with
  | refl => exact ha
  | step _ hp ih =>
    intro i hi
    rename_i L p _
    unfold stepB at hi
    rw [List.getD_eq_getElem?_getD, List.getElem?_set] at hi
    split at hi
    · rename_i e
      subst e
      split at hi
      · simp only [Option.getD_some, Bool.or_eq_true] at hi
        rcases hi with hi | hi
        · exact ih _ hi
        · exact hM _ hp (all_mono ih _ hi)
      · simp at hi
    · exact ih i (by rw [List.getD_eq_getElem?_getD]; exact hi)

/-- The least truths. -/
def Least (k : Bool) (ps : List PD) (n : Nat) (L : List Bool) : Prop := Reach k ps (List.replicate n false) L ∧ Closed k ps L
theorem Least.length {k : Bool} {ps : List PD} {n : Nat} {L : List Bool} (h : Least k ps n L) : L.length = n := by
  rw [reach_length h.1]; simp
theorem none_le (n : Nat) (M : List Bool) : LeB (List.replicate n false) M := by
  intro i hi
  rw [List.getD_eq_getElem?_getD, List.getElem?_replicate] at hi
  split at hi <;> simp at hi
theorem Least.le {k : Bool} {ps : List PD} {n : Nat} {L M : List Bool} (h : Least k ps n L) (hM : Closed k ps M) : LeB L M := reach_least h.1 (none_le n M) hM
theorem Least.same {k : Bool} {ps : List PD} {n : Nat} {L M : List Bool} (h : Least k ps n L) (h2 : Least k ps n M) : L = M := by
  have h3 := h.le h2.2
  have h4 := h2.le h.2
  refine List.ext_getElem (by rw [h.length, h2.length]) fun i a b => ?_
  have e1 := h3 i
  have e2 := h4 i
  rw [List.getD_eq_getElem?_getD, List.getD_eq_getElem?_getD, List.getElem?_eq_getElem a, List.getElem?_eq_getElem b] at e1 e2
  simp only [Option.getD_some] at e1 e2
  cases h5 : L[i] <;> cases h6 : M[i] <;> simp_all

end Go.Proofs.Ytmfobiimihaiiaa
