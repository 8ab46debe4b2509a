/- Plain mathematics: sets that grow, by what is told of places. -/
import Derived.Test.YtmfobiimihaiiaaHn
namespace Go.Proofs.Ytmfobiimihaiiaa

/-- What is told: at which place, and what, by what there is. -/
abbrev Ev := Nat × (List Nat → Nat)
abbrev top : Nat := 18446744073709551616
/-- One set within another. -/
abbrev Sub (a b : Nat) : Prop := a ||| b = b
theorem sub_iff {a b : Nat} : Sub a b ↔ ∀ i, a.testBit i = true → b.testBit i = true := by
  constructor
  · intro h i hi
    have := congrArg (fun n => n.testBit i) h
    simp only [Nat.testBit_or, hi, Bool.true_or] at this
    exact this.symm
  · intro h
    refine Nat.eq_of_testBit_eq fun i => ?_
    rw [Nat.testBit_or]
    have := h i
    cases e : a.testBit i <;> cases e2 : b.testBit i <;> simp_all
theorem sub_refl (a : Nat) : Sub a a := Nat.or_self a
theorem sub_trans {a b c : Nat} (h : Sub a b) (k : Sub b c) : Sub a c := sub_iff.2 fun i hi => sub_iff.1 k i (sub_iff.1 h i hi)
theorem sub_or_left (a b : Nat) : Sub a (a ||| b) := sub_iff.2 fun i hi => by rw [Nat.testBit_or, hi]; rfl
theorem sub_or_right (a b : Nat) : Sub b (a ||| b) := sub_iff.2 fun i hi => by rw [Nat.testBit_or, hi]; simp
theorem or_sub {a b c : Nat} (h : Sub a c) (k : Sub b c) : Sub (a ||| b) c := sub_iff.2 fun i hi => by
  rw [Nat.testBit_or, Bool.or_eq_true] at hi
  exact hi.elim (sub_iff.1 h i) (sub_iff.1 k i)
theorem zero_sub (a : Nat) : Sub 0 a := Nat.zero_or a
theorem sub_antisymm {a b : Nat} (h : Sub a b) (k : Sub b a) : a = b := by
  have h1 : a ||| b = b := h
  have h2 : b ||| a = a := k
  rw [← h1, Nat.or_comm, h2]
theorem sub_le {a b : Nat} (h : Sub a b) : a ≤ b := by
  have h1 : a ||| b = b := h
  rw [← h1]; exact Nat.left_le_or

/-- One turn. -/
def stepS (L : List Nat) (e : Ev) : List Nat := L.set e.1 (L.getD e.1 0 ||| e.2 L)
inductive ReachS (evs : List Ev) (L0 : List Nat) : List Nat → Prop where
  | refl : ReachS evs L0 L0
  | step {L : List Nat} {e : Ev} : ReachS evs L0 L → e ∈ evs → ReachS evs L0 (stepS L e)
/-- No turn changes anything. -/
def ClosedS (evs : List Ev) (L : List Nat) : Prop := ∀ e ∈ evs, Sub (e.2 L) (L.getD e.1 0)
/-- What is told is a set, whatever sets there are. -/
def SetEv (e : Ev) : Prop := ∀ L : List Nat, (∀ x ∈ L, x < top) → e.2 L < top

theorem stepS_length (L : List Nat) (e : Ev) : (stepS L e).length = L.length := by simp [stepS]
theorem getD_lt {L : List Nat} (h : ∀ x ∈ L, x < top) (i : Nat) : L.getD i 0 < top := by
  rw [List.getD_eq_getElem?_getD]
  cases e : L[i]? with
  | none => decide
  | some x => exact h x (List.mem_of_getElem? e)
theorem set_lt {L : List Nat} (h : ∀ x ∈ L, x < top) (i : Nat) {v : Nat} (hv : v < top) : ∀ x ∈ L.set i v, x < top := by
  intro x hx
  rcases List.mem_or_eq_of_mem_set hx with h1 | h1
  · exact h x h1
  · rw [h1]; exact hv
theorem setS_same {L : List Nat} {i : Nat} : L.set i (L.getD i 0) = L := by
  refine List.ext_getElem (by simp) fun j h1 h2 => ?_
  rw [List.getElem_set]
  split
  · rename_i e; subst e; rw [List.getD_eq_getElem?_getD, List.getElem?_eq_getElem h2]; rfl
  · rfl
/-- How much there may be yet. -/
def room (L : List Nat) : Nat := (L.map fun a => top - a).sum
theorem room_set : ∀ (L : List Nat) (i v : Nat), i < L.length → L.getD i 0 < v → v < top → room (L.set i v) < room L
  | [], i, v, h, _, _ => by simp at h
  | b :: L, 0, v, _, h, hv => by
    have h' : b < v := by simpa using h
    simp only [room, List.set_cons_zero, List.map_cons, List.sum_cons]
    omega
  | b :: L, i + 1, v, h, h2, hv => by
    have ih := room_set L i v (by simpa using h) (by simpa using h2) hv
    simp only [room, List.set_cons_succ, List.map_cons, List.sum_cons] at ih ⊢
    omega
/-- A turn changes nothing, or makes one greater. -/
theorem stepS_cases (L : List Nat) (e : Ev) (h : e.1 < L.length) (hL : ∀ x ∈ L, x < top) (he : e.2 L < top) :
    (L.getD e.1 0 ||| e.2 L) = L.getD e.1 0 ∧ stepS L e = L ∧ Sub (e.2 L) (L.getD e.1 0) ∨ (L.getD e.1 0 ||| e.2 L) ≠ L.getD e.1 0 ∧ room (stepS L e) < room L := by
  unfold stepS
  by_cases hx : (L.getD e.1 0 ||| e.2 L) = L.getD e.1 0
  · left
    refine ⟨hx, by rw [hx]; exact setS_same, ?_⟩
    show e.2 L ||| L.getD e.1 0 = L.getD e.1 0
    rw [Nat.or_comm]; exact hx
  · right
    have h1 := sub_le (sub_or_left (L.getD e.1 0) (e.2 L))
    exact ⟨hx, room_set L _ _ h (by omega) (or_lt (getD_lt hL _) he)⟩

/-- What is told of a pass that has made some turns. -/
def PassedS (evs done : List Ev) (L0 L : List Nat) (c : Bool) : Prop :=
  ReachS evs L0 L ∧ L.length = L0.length ∧ (∀ x ∈ L, x < top) ∧ (c = false → L = L0 ∧ ClosedS done L0) ∧ (c = true → room L < room L0) ∧ room L ≤ room L0
theorem passedS_nil (evs : List Ev) {L0 : List Nat} (h : ∀ x ∈ L0, x < top) : PassedS evs [] L0 L0 false :=
  ⟨.refl, rfl, h, fun _ => ⟨rfl, fun e he => absurd he (by simp)⟩, fun h => (by cases h), Nat.le_refl _⟩
theorem passedS_step {evs done : List Ev} {L0 L : List Nat} {c : Bool} (h : PassedS evs done L0 L c) {e : Ev} (he : e ∈ evs) (hs : e.1 < L0.length) (hv : e.2 L < top) :
    PassedS evs (done ++ [e]) L0 (stepS L e) (c || (L.getD e.1 0 ||| e.2 L) != L.getD e.1 0) := by
  obtain ⟨hr, hl, hL, hf, ht, hm⟩ := h
  have hLs : ∀ x ∈ stepS L e, x < top := set_lt hL _ (or_lt (getD_lt hL _) hv)
  rcases stepS_cases L e (by omega) hL hv with ⟨e1, e2, e3⟩ | ⟨e1, e2⟩
  · rw [e1, e2, bne_self_eq_false, Bool.or_false]
    refine ⟨hr, hl, hL, fun hc => ?_, ht, hm⟩
    obtain ⟨rfl, hi⟩ := hf hc
    refine ⟨rfl, fun x hx => ?_⟩
    rcases List.mem_append.1 hx with h1 | h1
    · exact hi x h1
    · simp only [List.mem_singleton] at h1
      subst h1
      exact e3
  · rw [bne_iff_ne.2 e1, Bool.or_true]
    exact ⟨.step hr he, by rw [stepS_length]; exact hl, hLs, fun h => (by cases h), fun _ => by omega, by omega⟩
theorem passedS_closed {evs : List Ev} {L0 L : List Nat} (h : PassedS evs evs L0 L false) : L = L0 ∧ ClosedS evs L := by
  obtain ⟨rfl, h2⟩ := h.2.2.2.1 rfl
  exact ⟨rfl, h2⟩

theorem reachS_trans {evs : List Ev} {a b c : List Nat} (h1 : ReachS evs a b) (h2 : ReachS evs b c) : ReachS evs a c := by
  induction h2 with
  | refl => exact h1
  | step _ hp ih => exact .step ih hp
theorem reachS_length {evs : List Ev} {a b : List Nat} (h : ReachS evs a b) : b.length = a.length := by
  induction h with
  | refl => rfl
  | step _ _ ih => rw [stepS_length, ih]

/-- Sets within others, place by place. -/
def LeS (a b : List Nat) : Prop := ∀ i, Sub (a.getD i 0) (b.getD i 0)
/-- What is told is more where there is more. -/
def MonoEv (e : Ev) : Prop := ∀ a b, LeS a b → Sub (e.2 a) (e.2 b)
theorem reachS_least {evs : List Ev} {a b M : List Nat} (h : ReachS evs a b) (ha : LeS a M) (hm : ∀ e ∈ evs, MonoEv e) (hM : ClosedS evs M) : LeS b M := by
  induction h with
  | refl => exact ha
  | step _ hp ih =>
    rename_i L e _
    intro i
    unfold stepS
    rw [List.getD_eq_getElem?_getD, List.getElem?_set]
    split
    · rename_i e'
      subst e'
      split
      · exact or_sub (ih _) (sub_trans (hm _ hp _ _ ih) (hM _ hp))
      · exact zero_sub _
    · rw [← List.getD_eq_getElem?_getD]; exact ih i

/-- The least sets. -/
def LeastS (evs : List Ev) (n : Nat) (L : List Nat) : Prop := ReachS evs (List.replicate n 0) L ∧ ClosedS evs L ∧ ∀ x ∈ L, x < top
theorem LeastS.length {evs : List Ev} {n : Nat} {L : List Nat} (h : LeastS evs n L) : L.length = n := by
  rw [reachS_length h.1]; simp
theorem none_leS (n : Nat) (M : List Nat) : LeS (List.replicate n 0) M := by
  intro i
  rw [List.getD_eq_getElem?_getD, List.getElem?_replicate]
  split <;> exact zero_sub _
theorem LeastS.le {evs : List Ev} {n : Nat} {L M : List Nat} (h : LeastS evs n L) (hm : ∀ e ∈ evs, MonoEv e) (hM : ClosedS evs M) : LeS L M := reachS_least h.1 (none_leS n M) hm hM
theorem LeastS.same {evs : List Ev} {n : Nat} {L M : List Nat} (h : LeastS evs n L) (h2 : LeastS evs n M) (hm : ∀ e ∈ evs, MonoEv e) : L = M := by
  have h3 := h.le hm h2.2.1
  have h4 := h2.le hm h.2.1
  refine List.ext_getElem (by rw [h.length, h2.length]) fun i a b => ?_
  have e := sub_antisymm (h3 i) (h4 i)
  rw [List.getD_eq_getElem?_getD, List.getD_eq_getElem?_getD, List.getElem?_eq_getElem a, List.getElem?_eq_getElem b] at e
  exact e

/-- With what a row of symbols begins. -/
def ofRow (nt : Nat) (E : List Bool) (F : List Nat) : List Int → Nat → Nat
  | [], b => b
  | s :: l, b => if 0 ≤ s then (if s < nt then bitN s else 0) else if (F.length : Int) ≤ -1 - s then 0 else
    F.getD (-1 - s).toNat 0 ||| (if E.getD (-1 - s).toNat false = true then ofRow nt E F l b else 0)
theorem ofRow_lt (nt : Nat) (E : List Bool) {F : List Nat} (hF : ∀ x ∈ F, x < top) : ∀ (l : List Int) {b : Nat}, b < top → ofRow nt E F l b < top
  | [], b, hb => hb
  | s :: l, b, hb => by
    unfold ofRow
    have ih := ofRow_lt nt E hF l hb
    split
    · split
      · exact bitN_lt s
      · decide
    · split
      · decide
      · refine or_lt (getD_lt hF _) ?_
        split
        · exact ih
        · decide
theorem ofRow_mono (nt : Nat) (E : List Bool) {F F' : List Nat} (h : LeS F F') (hl : F.length = F'.length) : ∀ (l : List Int) {b b' : Nat}, Sub b b' → Sub (ofRow nt E F l b) (ofRow nt E F' l b')
  | [], b, b', hb => hb
  | s :: l, b, b', hb => by
    have ih := ofRow_mono nt E h hl l hb
    unfold ofRow
    split
    · exact sub_refl _
    · rw [← hl]
      split
      · exact sub_refl _
      · refine or_sub (sub_trans (h _) (sub_or_left _ _)) ?_
        split
        · exact sub_trans ih (sub_or_right _ _)
        · exact zero_sub _

end Go.Proofs.Ytmfobiimihaiiaa
