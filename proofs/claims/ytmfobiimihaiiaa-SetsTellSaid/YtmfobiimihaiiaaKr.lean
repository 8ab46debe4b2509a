/- Plain mathematics: rounds enough of sets. -/
import Derived.Test.YtmfobiimihaiiaaKq
namespace Go.Proofs.Ytmfobiimihaiiaa

/-- What lists of sets are kept to. -/
def InvS (n : Nat) (L : List Nat) : Prop := L.length = n ∧ ∀ x ∈ L, x < top
/-- Which of the sets have one number. -/
def patS (t : Nat) (L : List Nat) : List Bool := L.map fun x => x.testBit t
/-- Turns whose numbers hang on the same numbers alone. -/
structure LocS (n : Nat) (evs : List Ev) : Prop where
  place : ∀ e ∈ evs, e.1 < n
  set : ∀ e ∈ evs, ∀ L, InvS n L → e.2 L < top
  bit : ∀ e ∈ evs, ∀ t a b, InvS n a → InvS n b → patS t a = patS t b → (e.2 a).testBit t = (e.2 b).testBit t

theorem patS_getD {t : Nat} {L : List Nat} (i : Nat) : (patS t L).getD i false = (L.getD i 0).testBit t := by
  unfold patS
  rw [List.getD_eq_getElem?_getD, List.getD_eq_getElem?_getD, List.getElem?_map]
  cases L[i]? <;> simp
theorem patS_step (t : Nat) (L : List Nat) (e : Ev) : patS t (stepS L e) = (patS t L).set e.1 ((patS t L).getD e.1 false || (e.2 L).testBit t) := by
  rw [patS_getD]
  unfold patS stepS
  rw [List.map_set, Nat.testBit_or]
def usS (evs : List Ev) : List (List Nat → List Nat) := evs.map fun e L => stepS L e
theorem turnsS {n : Nat} {evs : List Ev} (h : LocS n evs) (t : Nat) : Turns (InvS n) (patS t) (usS evs) := by
  refine ⟨fun u hu L hL => ?_, fun u hu L L' hL hL' e => ?_, fun u hu L hL => ?_⟩
  · obtain ⟨e, he, rfl⟩ := List.mem_map.1 hu
    exact ⟨by show (stepS L e).length = n; rw [stepS_length]; exact hL.1, set_lt hL.2 _ (or_lt (getD_lt hL.2 _) (h.set e he L hL))⟩
  · obtain ⟨x, hx, rfl⟩ := List.mem_map.1 hu
    show patS t (stepS L x) = patS t (stepS L' x)
    rw [patS_step, patS_step, e, h.bit x hx t L L' hL hL' e]
  · obtain ⟨e, he, rfl⟩ := List.mem_map.1 hu
    show patS t (stepS L e) = patS t L ∨ cf (patS t (stepS L e)) < cf (patS t L)
    rw [patS_step]
    have hi : e.1 < (patS t L).length := by unfold patS; rw [List.length_map, hL.1]; exact h.place e he
    cases h1 : (patS t L).getD e.1 false
    · cases h2 : (e.2 L).testBit t
      · left
        have := set_same (L := patS t L) (i := e.1)
        rw [h1] at this
        exact this
      · right
        have := count_set _ _ hi h1
        show ((patS t L).set e.1 (false || true)).count false < _
        rw [Bool.false_or]
        show _ < (patS t L).count false
        omega
    · left
      have := set_same (L := patS t L) (i := e.1)
      rw [h1] at this
      simpa using this
theorem reach_roundsS {evs : List Ev} {L0 : List Nat} (n : Nat) : ReachS evs L0 (roundsU (usS evs) n L0) := by
  induction n with
  | zero => exact .refl
  | succ n ih =>
    have : ∀ (qs : List Ev), (∀ q ∈ qs, q ∈ evs) → ∀ M, ReachS evs L0 M → ReachS evs L0 (roundU (usS qs) M) := by
      intro qs
      induction qs with
      | nil => exact fun _ M h => h
      | cons q qs ih2 => exact fun hq M h => ih2 (fun x hx => hq x (List.mem_cons_of_mem _ hx)) _ (.step h (hq q List.mem_cons_self))
    exact this evs (fun _ h => h) _ ih
theorem invS_zero (n : Nat) : InvS n (List.replicate n 0) := ⟨by simp, fun x hx => by rw [List.eq_of_mem_replicate hx]; decide⟩
theorem closed_rounds {n : Nat} {evs : List Ev} (h : LocS n evs) {L0 : List Nat} (h0 : InvS n L0) : ClosedS evs (roundsU (usS evs) (n + 1) L0) ∧ InvS n (roundsU (usS evs) (n + 1) L0) := by
  have hI := (turnsS h 0).invs h0 (n + 1)
  refine ⟨fun e he => sub_iff.2 fun t ht => ?_, hI⟩
  have hc := (turnsS h t).closed h0 (n := n) (by
    show (patS t L0).count false ≤ n
    have := List.count_le_length (a := false) (l := patS t L0)
    unfold patS at this ⊢
    rw [List.length_map, h0.1] at this
    exact this) _ (List.mem_map.2 ⟨e, he, rfl⟩)
  generalize roundsU (usS evs) (n + 1) L0 = M at *
  have h1 : patS t (stepS M e) = patS t M := hc
  have h2 : (patS t (stepS M e)).getD e.1 false = (patS t M).getD e.1 false := by rw [h1]
  rw [patS_getD, patS_getD] at h2
  rw [← h2]
  unfold stepS
  rw [List.getD_eq_getElem?_getD, List.getElem?_set_self (by rw [hI.1]; exact h.place e he), Option.getD_some, Nat.testBit_or, ht]
  simp
theorem leastS_rounds {n : Nat} {evs : List Ev} (h : LocS n evs) : LeastS evs n (roundsU (usS evs) (n + 1) (List.replicate n 0)) :=
  ⟨reach_roundsS _, (closed_rounds h (invS_zero n)).1, (closed_rounds h (invS_zero n)).2.2⟩

theorem ofRow_bit (nt : Nat) (E : List Bool) {F F' : List Nat} {t : Nat} (hl : F.length = F'.length) (hb : patS t F = patS t F') : ∀ (l : List Int) {b b' : Nat}, b.testBit t = b'.testBit t → (ofRow nt E F l b).testBit t = (ofRow nt E F' l b').testBit t
  | [], _, _, h => h
  | s :: l, b, b', h => by
    have ih := ofRow_bit nt E hl hb l h
    unfold ofRow
    split
    · rfl
    · rw [← hl]
      split
      · rfl
      · rw [Nat.testBit_or, Nat.testBit_or, ← patS_getD, ← patS_getD, hb]
        congr 1
        split
        · exact ih
        · rfl
theorem locF {nt n : Nat} {E : List Bool} {ps : List PD} (hs : ∀ p ∈ ps, p.sort.toNat < n) : LocS n (evF nt E ps) := by
  refine ⟨fun e he => ?_, fun e he L hL => ?_, fun e he t a b ha hb hp => ?_⟩
  · obtain ⟨p, hp, rfl⟩ := List.mem_map.1 he
    exact hs p hp
  · obtain ⟨p, hp, rfl⟩ := List.mem_map.1 he
    exact ofRow_lt nt E hL.2 _ (by decide)
  · obtain ⟨p, _, rfl⟩ := List.mem_map.1 he
    exact ofRow_bit nt E (by rw [ha.1, hb.1]) hp _ rfl
/-- The turns of what follows, but for the first one. -/
theorem locA {nt n : Nat} {E : List Bool} {F : List Nat} {ps : List PD} (hF : ∀ x ∈ F, x < top) (hs : ∀ p ∈ ps, ∀ k, k < p.rs.length → p.rs.getD k 0 < 0 → (-1 - p.rs.getD k 0).toNat < n) : LocS n (evAll nt E F ps) := by
  have hm : ∀ e ∈ evAll nt E F ps, ∃ p ∈ ps, ∃ k, k < p.rs.length ∧ p.rs.getD k 0 < 0 ∧ e = ((-1 - p.rs.getD k 0).toNat, fun L => ofRow nt E F (p.rs.drop (k + 1)) (L.getD p.sort.toNat 0)) := fun e he => by
    obtain ⟨p, hp, h⟩ := List.mem_flatMap.1 he
    obtain ⟨k, hk, h⟩ := List.mem_flatMap.1 h
    unfold evSym at h
    split at h
    · rename_i hn
      exact ⟨p, hp, k, by simpa using hk, hn, by simpa using h⟩
    · simp at h
  refine ⟨fun e he => ?_, fun e he L hL => ?_, fun e he t a b ha hb hp => ?_⟩
  · obtain ⟨p, hp, k, hk, hn, rfl⟩ := hm e he
    exact hs p hp k hk hn
  · obtain ⟨p, hp, k, hk, hn, rfl⟩ := hm e he
    exact ofRow_lt nt E hF _ (getD_lt hL.2 _)
  · obtain ⟨p, _, k, _, _, rfl⟩ := hm e he
    refine ofRow_bit nt E rfl rfl _ ?_
    rw [← patS_getD, ← patS_getD, hp]

theorem reachS_up {evs : List Ev} {a b : List Nat} (h : ReachS evs a b) : LeS a b := by
  induction h with
  | refl => exact leS_refl a
  | step _ _ ih =>
    rename_i L e _ _
    intro i
    refine sub_trans (ih i) ?_
    unfold stepS
    rw [List.getD_eq_getElem?_getD, List.getD_eq_getElem?_getD, List.getElem?_set]
    split
    · rename_i e'
      subst e'
      split
      · exact sub_or_left _ _
      · rename_i hn
        rw [List.getElem?_eq_none (by omega)]
        exact zero_sub _
    · exact sub_refl _
theorem reachS_sub {es fs : List Ev} {a b : List Nat} (hs : ∀ e ∈ es, e ∈ fs) (h : ReachS es a b) : ReachS fs a b := by
  induction h with
  | refl => exact .refl
  | step _ hp ih => exact .step ih (hs _ hp)
theorem leastW_rounds {nt n : Nat} {E : List Bool} {F : List Nat} {st : Int} {ps : List PD} (h : LocS n (evAll nt E F ps)) (hst : st.toNat < n) :
    LeastS (evW nt E F st ps) n (roundsU (usS (evAll nt E F ps)) (n + 1) ((List.replicate n 0).set st.toNat (bitN 63))) := by
  have h0 : InvS n ((List.replicate n 0).set st.toNat (bitN 63)) := ⟨by simp, set_lt (invS_zero n).2 _ (by decide)⟩
  have hc := closed_rounds h h0
  have hr := reach_roundsS (evs := evAll nt E F ps) (L0 := (List.replicate n 0).set st.toNat (bitN 63)) (n + 1)
  have h1 : ReachS (evW nt E F st ps) (List.replicate n 0) ((List.replicate n 0).set st.toNat (bitN 63)) := by
    have := ReachS.step (evs := evW nt E F st ps) (L0 := List.replicate n 0) .refl (List.mem_cons_self (a := (st.toNat, fun _ => bitN 63)))
    unfold stepS at this
    simpa [List.getD_eq_getElem?_getD, hst] using this
  refine ⟨reachS_trans h1 (reachS_sub (fun e he => List.mem_cons_of_mem _ he) hr), fun e he => ?_, hc.2.2⟩
  rcases List.mem_cons.1 he with rfl | he
  · have := reachS_up hr st.toNat
    rw [List.getD_eq_getElem?_getD, List.getElem?_set_self (by simpa using hst)] at this
    exact this
  · exact hc.1 e he

end Go.Proofs.Ytmfobiimihaiiaa
