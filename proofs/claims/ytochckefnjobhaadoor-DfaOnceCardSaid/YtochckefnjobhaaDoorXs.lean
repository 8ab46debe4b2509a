/- Search from place to place. -/
import Derived.Test.YtochckefnjobhaaDoorXq
set_option linter.unusedVariables false
namespace Go.Proofs.X4
open X3
/-- How much lies ahead of places that are not seen. -/
def wt : List Pl → List Bool → Nat
  | pl :: P, false :: S => 1 + pl.also.length + wt P S
  | _ :: P, true :: S => wt P S
  | _, _ => 0
theorem wt_le (P : List Pl) (S : List Bool) : wt P S ≤ muL P := by
  induction P generalizing S with
  | nil => cases S <;> simp [wt]
  | cons pl P ih =>
    cases S with
    | nil => simp [wt]
    | cons b S =>
      have := ih S
      have e : muL (pl :: P) = 1 + pl.also.length + muL P := by simp [muL]
      cases b <;> simp only [wt] <;> omega
theorem wt_set {P : List Pl} {S : List Bool} {n : Nat} {pl : Pl} (h : S[n]? = some false) (hp : P[n]? = some pl) : wt P (S.set n true) + (1 + pl.also.length) = wt P S := by
  induction P generalizing S n with
  | nil => simp at hp
  | cons q P ih =>
    cases S with
    | nil => simp at h
    | cons b S =>
      cases n with
      | zero => simp at h hp; subst h hp; simp only [List.set_cons_zero, wt]; omega
      | succ n =>
        simp at h hp
        have := ih h hp
        cases b <;> simp only [List.set_cons_succ, wt] <;> omega

/-- Where the search is: places to look at yet, those that were seen, those that count. -/
structure Dfs (P : List Pl) (TS F0 F : List Nat) (Sn : List Bool) (A : List Nat) : Prop where
  len : Sn.length = P.length
  ltF : ∀ f ∈ F, f < P.length
  fromF : ∀ f ∈ F, ∃ p ∈ F0, Eps P p f
  fromS : ∀ q, Sn[q]? = some true → ∃ p ∈ F0, Eps P p q
  start : ∀ p ∈ F0, p ∈ F ∨ Sn[p]? = some true
  clos : ∀ (p : Nat) (pl : Pl), Sn[p]? = some true → P[p]? = some pl → ∀ c ∈ pl.also, c ∈ F ∨ Sn[c]? = some true
  nod : A.Nodup
  isA : ∀ q, q ∈ A ↔ Sn[q]? = some true ∧ imp P TS q
  mu : F.length + wt P Sn ≤ F0.length + muL P
theorem Dfs.begin (P : List Pl) (TS F0 : List Nat) (h : ∀ f ∈ F0, f < P.length) : Dfs P TS F0 F0 (List.replicate P.length false) [] where
  len := by simp
  ltF := h
  fromF := fun f hf => ⟨f, hf, .refl f⟩
  fromS := fun q hq => by rw [List.getElem?_replicate] at hq; split at hq <;> simp at hq
  start := fun p hp => .inl hp
  clos := fun p pl hq => by rw [List.getElem?_replicate] at hq; split at hq <;> simp at hq
  nod := List.nodup_nil
  isA := fun q => by
    constructor
    · intro h; simp at h
    · rintro ⟨hq, _⟩; rw [List.getElem?_replicate] at hq; split at hq <;> simp at hq
  mu := by have := wt_le P (List.replicate P.length false); omega
theorem Dfs.skip {P : List Pl} {TS F0 F : List Nat} {n : Nat} {Sn : List Bool} {A : List Nat} (h : Dfs P TS F0 (F ++ [n]) Sn A) (hn : Sn[n]? = some true) : Dfs P TS F0 F Sn A where
  len := h.len
  ltF := fun f hf => h.ltF f (by simp [hf])
  fromF := fun f hf => h.fromF f (by simp [hf])
  fromS := h.fromS
  start := fun p hp => by
    rcases h.start p hp with h1 | h1
    · rcases List.mem_append.1 h1 with h2 | h2
      · exact .inl h2
      · simp at h2; subst h2; exact .inr hn
    · exact .inr h1
  clos := fun p pl hp hpl c hc => by
    rcases h.clos p pl hp hpl c hc with h1 | h1
    · rcases List.mem_append.1 h1 with h2 | h2
      · exact .inl h2
      · simp at h2; subst h2; exact .inr hn
    · exact .inr h1
  nod := h.nod
  isA := h.isA
  mu := by have := h.mu; simp at this; omega
theorem getset {Sn : List Bool} {n q : Nat} (hn : Sn[n]? = some false) : (Sn.set n true)[q]? = some true ↔ q = n ∨ Sn[q]? = some true := by
  rw [List.getElem?_set]
  by_cases e : n = q
  · subst e
    have hl : n < Sn.length := (List.getElem?_eq_some_iff.1 hn).1
    simp [hl]
  · simp [e, Ne.symm e]
theorem Dfs.see {P : List Pl} {TS F0 F A A' : List Nat} {n : Nat} {Sn : List Bool} {pl : Pl} (h : Dfs P TS F0 (F ++ [n]) Sn A) (hn : Sn[n]? = some false) (hp : P[n]? = some pl) (hb : Bd P P.length)
    (hA : (imp P TS n ∧ A' = A ++ [n]) ∨ (¬ imp P TS n ∧ A' = A)) : Dfs P TS F0 (F ++ pl.also) (Sn.set n true) A' where
  len := by simp [h.len]
  ltF := fun f hf => by
    rcases List.mem_append.1 hf with h1 | h1
    · exact h.ltF f (by simp [h1])
    · exact (hb pl (List.mem_iff_getElem?.2 ⟨_, hp⟩)).2 f h1
  fromF := fun f hf => by
    rcases List.mem_append.1 hf with h1 | h1
    · exact h.fromF f (by simp [h1])
    · obtain ⟨p, hp0, he⟩ := h.fromF n (by simp)
      exact ⟨p, hp0, he.trans (.step n f f pl hp h1 (.refl f))⟩
  fromS := fun q hq => by
    rcases (getset hn).1 hq with h1 | h1
    · subst h1; exact h.fromF _ (by simp)
    · exact h.fromS q h1
  start := fun p hp0 => by
    rcases h.start p hp0 with h1 | h1
    · rcases List.mem_append.1 h1 with h2 | h2
      · exact .inl (by simp [h2])
      · simp at h2; exact .inr ((getset hn).2 (.inl h2))
    · exact .inr ((getset hn).2 (.inr h1))
  clos := fun p pl' hq hpl c hc => by
    rcases (getset hn).1 hq with h1 | h1
    · subst h1; rw [hp] at hpl; injection hpl with e; subst e
      exact .inl (by simp [hc])
    · rcases h.clos p pl' h1 hpl c hc with h2 | h2
      · rcases List.mem_append.1 h2 with h3 | h3
        · exact .inl (by simp [h3])
        · simp at h3; exact .inr ((getset hn).2 (.inl h3))
      · exact .inr ((getset hn).2 (.inr h2))
  nod := by
    rcases hA with ⟨_, rfl⟩ | ⟨_, rfl⟩
    · have hnA : n ∉ A := fun hm => by have := ((h.isA n).1 hm).1; rw [hn] at this; simp at this
      rw [List.nodup_append]
      exact ⟨h.nod, by simp, by rintro a ha b hb rfl; simp at hb; subst hb; exact hnA ha⟩
    · exact h.nod
  isA := fun q => by
    rw [getset hn]
    rcases hA with ⟨hi, rfl⟩ | ⟨hi, rfl⟩
    · rw [List.mem_append, h.isA]
      simp only [List.mem_singleton]
      constructor
      · rintro (⟨h1, h2⟩ | rfl)
        · exact ⟨.inr h1, h2⟩
        · exact ⟨.inl rfl, hi⟩
      · rintro ⟨rfl | h1, h2⟩
        · exact .inr rfl
        · exact .inl ⟨h1, h2⟩
    · rw [h.isA]
      constructor
      · rintro ⟨h1, h2⟩; exact ⟨.inr h1, h2⟩
      · rintro ⟨rfl | h1, h2⟩
        · exact absurd h2 hi
        · exact ⟨h1, h2⟩
  mu := by have := h.mu; have := wt_set hn hp; simp at *; omega
theorem Dfs.done {P : List Pl} {TS F0 A B : List Nat} {Sn : List Bool} (h : Dfs P TS F0 [] Sn A) (hB : B.Perm A) (hs : B.Pairwise (· ≤ ·)) : Closed P TS (fun p => p ∈ F0) B where
  up := by
    have hn : B.Nodup := hB.nodup_iff.2 h.nod
    exact (hs.and hn).imp (fun {a b} ⟨h1, h2⟩ => by omega)
  is := fun q => by
    rw [hB.mem_iff, h.isA]
    have key : ∀ p q, Eps P p q → Sn[p]? = some true → Sn[q]? = some true := by
      intro p q he
      induction he with
      | refl => exact id
      | step p q r pl hp hq hr ih =>
        intro hs
        rcases h.clos p pl hs hp q hq with h1 | h1
        · simp at h1
        · exact ih h1
    constructor
    · rintro ⟨h1, h2⟩; exact ⟨h.fromS q h1, h2⟩
    · rintro ⟨⟨p, hp, he⟩, h2⟩
      refine ⟨key p q he ?_, h2⟩
      rcases h.start p hp with h1 | h1
      · simp at h1
      · exact h1
theorem Dfs.alen {P : List Pl} {TS F0 F A : List Nat} {Sn : List Bool} (h : Dfs P TS F0 F Sn A) : A.length ≤ P.length := by
  have hsub : A ⊆ List.range P.length := fun q hq => by
    have h1 := ((h.isA q).1 hq).1
    have := (List.getElem?_eq_some_iff.1 h1).1
    rw [h.len] at this
    exact List.mem_range.2 this
  have := h.nod.length_le_of_subset hsub
  simpa using this
end Go.Proofs.X4
