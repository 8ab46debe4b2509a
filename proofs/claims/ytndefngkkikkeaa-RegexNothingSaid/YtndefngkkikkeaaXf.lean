/- Plain mathematics: which places are come to by a text; how they are gathered. -/
import Derived.Test.YtndefngkkikkeaaXe
namespace Go.Proofs.X3
set_option linter.unusedVariables false

inductive Eps (P : List Pl) : Nat → Nat → Prop
  | refl (p : Nat) : Eps P p p
  | step (p q r : Nat) (pl : Pl) (h : P[p]? = some pl) (hq : q ∈ pl.also) (hr : Eps P q r) : Eps P p r
theorem Eps.trans {P : List Pl} {a b c : Nat} (h : Eps P a b) (k : Eps P b c) : Eps P a c := by
  induction h with
  | refl => exact k
  | step p q r pl h hq hr ih => exact .step p q c pl h hq (ih k)

/-- The places that are come to by a text. -/
inductive Reach (P : List Pl) (f : Nat) : List UInt8 → Nat → Prop
  | start (q : Nat) (h : Eps P f q) : Reach P f [] q
  | step (s : List UInt8) (x : UInt8) (p q : Nat) (pl : Pl) (hp : Reach P f s p) (h : P[p]? = some pl) (hx : hasX pl.b x.toNat = true) (hq : Eps P pl.next q) : Reach P f (s ++ [x]) q

theorem Reach.eps {P : List Pl} {f : Nat} {s : List UInt8} {p q : Nat} (h : Reach P f s p) (k : Eps P p q) : Reach P f s q := by
  cases h with
  | start _ h => exact .start q (h.trans k)
  | step s x p' _ pl hp h hx hq => exact .step s x p' q pl hp h hx (hq.trans k)

theorem reach_of_run {P : List Pl} {f k p : Nat} {s : List UInt8} (h : RunN P k p s) : ∀ s0, Reach P f s0 p → Reach P f (s0 ++ s) 0 := by
  induction h with
  | stop => intro s0 h; rw [List.append_nil]; exact h
  | eps p q k s pl h hq hr ih => intro s0 h0; exact ih s0 (h0.eps (.step p q q pl h hq (.refl q)))
  | byte p k x s pl h hx hr ih =>
    intro s0 h0
    have := ih (s0 ++ [x]) (.step s0 x p pl.next pl h0 h hx (.refl _))
    simpa using this

theorem run_eps {P : List Pl} {p q : Nat} (h : Eps P p q) {s : List UInt8} (hr : ∃ k, RunN P k q s) : ∃ k, RunN P k p s := by
  induction h with
  | refl => exact hr
  | step p q r pl h hq _ ih => obtain ⟨k, hk⟩ := ih hr; exact ⟨k + 1, .eps p q k s pl h hq hk⟩
theorem run_of_reach {P : List Pl} {f : Nat} {s : List UInt8} {p : Nat} (h : Reach P f s p) : ∀ t, (∃ k, RunN P k p t) → ∃ k, RunN P k f (s ++ t) := by
  induction h with
  | start q h => intro t ht; exact run_eps h ht
  | step s x p q pl hp h hx hq ih =>
    intro t ht
    obtain ⟨k, hk⟩ := run_eps hq ht
    have := ih (x :: t) ⟨k + 1, .byte p k x t pl h hx hk⟩
    simpa using this

theorem reach_match (r : RX) (s : List UInt8) : Reach (placesX r) (firstX r) s 0 ↔ Mt r s := by
  rw [← run_match]
  constructor
  · intro h
    have := run_of_reach h [] ⟨0, .stop⟩
    rwa [List.append_nil] at this
  · rintro ⟨k, hk⟩
    exact reach_of_run hk [] (.start _ (.refl _))

/-! ### Bounds -/
def Bd (P : List Pl) (n : Nat) : Prop := ∀ pl ∈ P, pl.next < n ∧ ∀ q ∈ pl.also, q < n
theorem Bd.mono {P : List Pl} {n m : Nat} (h : Bd P n) (hm : n ≤ m) : Bd P m := fun pl hp => ⟨Nat.lt_of_lt_of_le (h pl hp).1 hm, fun q hq => Nat.lt_of_lt_of_le ((h pl hp).2 q hq) hm⟩
theorem Bd.app {P : List Pl} {n : Nat} (h : Bd P n) {pl : Pl} (h1 : pl.next < n) (h2 : ∀ q ∈ pl.also, q < n) : Bd (P ++ [pl]) n := by
  intro x hx
  simp at hx
  rcases hx with hx | rfl
  · exact h x hx
  · exact ⟨h1, h2⟩
theorem Bd.addAlso {P : List Pl} {n a f : Nat} (h : Bd P n) (hf : f < n) : Bd (addAlso P a f) n := by
  intro x hx
  obtain ⟨k, e⟩ := List.mem_iff_getElem?.1 hx
  by_cases hk : k = a
  · subst hk
    cases hP : P[k]? with
    | none => unfold X3.addAlso at e; rw [List.getElem?_modify, hP] at e; cases e
    | some y =>
      rw [addAlso_at P hP] at e
      obtain rfl := Option.some.inj e
      have := h y (List.mem_iff_getElem?.2 ⟨k, hP⟩)
      refine ⟨this.1, fun q hq => ?_⟩
      simp at hq
      rcases hq with hq | rfl
      · exact this.2 q hq
      · exact hf
  · rw [addAlso_ne P hk] at e
    exact h x (List.mem_iff_getElem?.2 ⟨k, e⟩)
theorem Bd.setAlso {P : List Pl} {n a : Nat} {l : List Nat} (h : Bd P n) (hl : ∀ q ∈ l, q < n) : Bd (setAlso P a l) n := by
  intro x hx
  obtain ⟨k, e⟩ := List.mem_iff_getElem?.1 hx
  by_cases hk : k = a
  · subst hk
    cases hP : P[k]? with
    | none => unfold X3.setAlso at e; rw [List.getElem?_modify, hP] at e; cases e
    | some y =>
      rw [setAlso_at P hP] at e
      obtain rfl := Option.some.inj e
      exact ⟨(h y (List.mem_iff_getElem?.2 ⟨k, hP⟩)).1, hl⟩
  · rw [setAlso_ne P hk] at e
    exact h x (List.mem_iff_getElem?.2 ⟨k, e⟩)

/-- All places, and all that are told by them. -/
def muL (P : List Pl) : Nat := (P.map fun pl => 1 + pl.also.length).sum
theorem muL_app (P : List Pl) (pl : Pl) : muL (P ++ [pl]) = muL P + (1 + pl.also.length) := by simp [muL]
theorem muL_add (P : List Pl) (a f : Nat) : muL (addAlso P a f) ≤ muL P + 1 := by
  unfold addAlso muL
  induction P generalizing a with
  | nil => simp
  | cons p P ih =>
    cases a with
    | zero => simp; omega
    | succ a => have := ih a; simp at this ⊢; omega
theorem muL_set (P : List Pl) (a : Nat) (l : List Nat) : muL (setAlso P a l) ≤ muL P + l.length := by
  unfold setAlso muL
  induction P generalizing a with
  | nil => simp
  | cons p P ih =>
    cases a with
    | zero => simp; omega
    | succ a => have := ih a; simp at this ⊢; omega

/-- What is laid is sound, and not too much. -/
structure Sound (P P' : List Pl) (i n : Nat) : Prop where
  bd : Bd P' P'.length
  lt : i < P'.length
  len : P'.length ≤ P.length + n
  mu : muL P' ≤ muL P + (4 * n - 1)

mutual
theorem lay_sound : ∀ (r : RX) (b : Nat) (P : List Pl), Bd P P.length → b < P.length → Sound P (layX r b P).2 (layX r b P).1 r.size
  | .empty, b, P, h, hb => ⟨h, hb, by simp [layX], by simp [layX]⟩
  | .bytes x y z u, b, P, h, hb => by
    simp only [layX, RX.size]
    exact ⟨(h.mono (by simp)).app (by simp; omega) (by simp), by simp, by simp, by rw [muL_app]; simp⟩
  | .cat l, b, P, h, hb => by
    have h1 := layCat_sound l b P h hb
    simp only [layX, RX.size]
    exact ⟨h1.1, h1.2.1, by have := h1.2.2.1; omega, by have := h1.2.2.2; omega⟩
  | .alt l, b, P, h, hb => by
    have h1 := layAlt_sound l P.length b (P ++ [none_]) ((h.mono (by simp)).app (by simp [none_]) (by simp [none_])) (by simp; omega)
    have k1 := (layAlt_keep l P.length b (P ++ [none_])).1
    simp only [layX, RX.size]
    have e : muL (P ++ [none_]) = muL P + 1 := by rw [muL_app]; rfl
    simp at k1
    exact ⟨h1.1, by omega, by have := h1.2.1; simp at this; omega, by have := h1.2.2; omega⟩
  | .star r, b, P, h, hb => by
    have h1 := lay_sound r P.length (P ++ [none_]) ((h.mono (by simp)).app (by simp [none_]) (by simp [none_])) (by simp)
    have k1 := (lay_keep r P.length (P ++ [none_])).1
    simp only [layX, RX.size]
    have e : muL (P ++ [none_]) = muL P + 1 := by rw [muL_app]; rfl
    have h2 := muL_set (layX r P.length (P ++ [none_])).2 P.length [b, (layX r P.length (P ++ [none_])).1]
    simp at k1 h2
    refine ⟨?_, by rw [setAlso_len]; omega, by rw [setAlso_len]; have := h1.len; simp at this; omega, by have := h1.mu; omega⟩
    rw [setAlso_len]
    refine h1.bd.setAlso fun q hq => ?_
    simp at hq
    rcases hq with rfl | rfl
    · omega
    · exact h1.lt
theorem layCat_sound : ∀ (l : List RX) (b : Nat) (P : List Pl), Bd P P.length → b < P.length → Bd (layCat l b P).2 (layCat l b P).2.length ∧ (layCat l b P).1 < (layCat l b P).2.length ∧ (layCat l b P).2.length ≤ P.length + sizeL l ∧ muL (layCat l b P).2 ≤ muL P + 4 * sizeL l
  | [], b, P, h, hb => ⟨h, hb, by simp [layCat], by simp [layCat]⟩
  | r :: l, b, P, h, hb => by
    have h1 := layCat_sound l b P h hb
    have h2 := lay_sound r (layCat l b P).1 (layCat l b P).2 h1.1 h1.2.1
    simp only [layCat, sizeL]
    exact ⟨h2.bd, h2.lt, by have := h2.len; omega, by have := h2.mu; omega⟩
theorem layAlt_sound : ∀ (l : List RX) (a b : Nat) (P : List Pl), Bd P P.length → b < P.length → Bd (layAlt l a b P) (layAlt l a b P).length ∧ (layAlt l a b P).length ≤ P.length + sizeL l ∧ muL (layAlt l a b P) ≤ muL P + 4 * sizeL l
  | [], a, b, P, h, hb => ⟨h, by simp [layAlt], by simp [layAlt]⟩
  | r :: l, a, b, P, h, hb => by
    have h1 := lay_sound r b P h hb
    have h2 := layAlt_sound l a b (addAlso (layX r b P).2 a (layX r b P).1) (by rw [addAlso_len]; exact h1.bd.addAlso h1.lt) (by rw [addAlso_len]; have := (lay_keep r b P).1; omega)
    have h3 := muL_add (layX r b P).2 a (layX r b P).1
    rw [addAlso_len] at h2
    simp only [layAlt, sizeL]
    have h4 : 1 ≤ r.size := by cases r <;> simp only [RX.size] <;> omega
    exact ⟨h2.1, by have := h1.len; omega, by have := h1.mu; omega⟩
end

theorem sizeL_le_drop (l : List RX) (k : Nat) (hk : k < l.length) : l[k].size + sizeL (l.drop (k + 1)) ≤ sizeL l := by
  induction l generalizing k with
  | nil => simp at hk
  | cons r l ih =>
    cases k with
    | zero => simp [sizeL]
    | succ k => have := ih k (by simpa using hk); simp only [List.getElem_cons_succ, List.drop_succ_cons, sizeL]; omega

theorem also_le_mu {P : List Pl} {k : Nat} {pl : Pl} (h : P[k]? = some pl) : pl.also.length ≤ muL P := by
  unfold muL
  induction P generalizing k with
  | nil => cases h
  | cons p P ih =>
    cases k with
    | zero => simp at h; subst h; simp; omega
    | succ k => have := ih (by simpa using h); simp at this ⊢; omega
theorem modify_also {P : List Pl} {k f : Nat} {pl : Pl} (h : P[k]? = some pl) : (P.modify k fun p => { p with also := pl.also ++ [f] }) = addAlso P k f := by
  unfold addAlso
  apply List.ext_getElem?
  intro i
  rw [List.getElem?_modify, List.getElem?_modify]
  by_cases e : k = i
  · subst e; rw [h]; simp
  · simp only [if_neg e]

/-! ### Gathering -/
/-- What a row of marks has: by v those places that are gathered; the rest is of elder texts. -/
structure Gath (P : List Pl) (T : Nat → Prop) (v : Nat) (seen : List Nat) (at_ more : List Nat) : Prop where
  len : seen.length = P.length
  old : ∀ (p x : Nat), seen[p]? = some x → x ≤ v
  moreT : ∀ q ∈ more, T q
  marksT : ∀ p : Nat, seen[p]? = some v → T p
  closed : ∀ (p : Nat) (pl : Pl), seen[p]? = some v → P[p]? = some pl → ∀ q ∈ pl.also, seen[q]? = some v ∨ q ∈ more
  iff_ : ∀ p : Nat, p ∈ at_ ↔ seen[p]? = some v

/-- What is left to be gathered. -/
def muS : List Pl → List Nat → Nat → Nat
  | p :: P, x :: s, v => (if x = v then 0 else 1 + p.also.length) + muS P s v
  | _, _, _ => 0
theorem muS_le (P : List Pl) : ∀ (s : List Nat) (v : Nat), muS P s v ≤ muL P := by
  induction P with
  | nil => intro s v; cases s <;> simp [muS, muL]
  | cons p P ih =>
    intro s v
    cases s with
    | nil => simp [muS]
    | cons x s =>
      have := ih s v
      simp only [muS, muL, List.map_cons, List.sum_cons] at *
      split <;> omega
theorem muS_set (P : List Pl) : ∀ (s : List Nat) (v k : Nat) (pl : Pl), P[k]? = some pl → s.length = P.length → s[k]? ≠ some v → muS P (s.set k v) v + (1 + pl.also.length) = muS P s v := by
  induction P with
  | nil => intro s v k pl h; cases h
  | cons p P ih =>
    intro s v k pl h hl hne
    cases s with
    | nil => simp at hl
    | cons x s =>
      cases k with
      | zero =>
        simp at h hne
        subst h
        simp only [List.set_cons_zero, muS, if_true, if_neg hne]
        omega
      | succ k =>
        have := ih s v k pl (by simpa using h) (by simpa using hl) (by simpa using hne)
        simp only [List.set_cons_succ, muS]
        omega

theorem Gath.pop {P : List Pl} {T : Nat → Prop} {v : Nat} {seen at_ m : List Nat} {p : Nat} (h : Gath P T v seen at_ (m ++ [p])) (hp : seen[p]? = some v) : Gath P T v seen at_ m :=
  ⟨h.len, h.old, fun q hq => h.moreT q (by simp [hq]), h.marksT, fun p' pl h1 h2 q hq => by
    rcases h.closed p' pl h1 h2 q hq with h3 | h3
    · exact .inl h3
    · simp at h3
      rcases h3 with h3 | rfl
      · exact .inr h3
      · exact .inl hp, h.iff_⟩
theorem Gath.mark {P : List Pl} {T : Nat → Prop} {v : Nat} {seen at_ m : List Nat} {p : Nat} {pl : Pl} (hT : ∀ p pl, T p → P[p]? = some pl → ∀ q ∈ pl.also, T q)
    (h : Gath P T v seen at_ (m ++ [p])) (hpl : P[p]? = some pl) (hp : seen[p]? ≠ some v) : Gath P T v (seen.set p v) (at_ ++ [p]) (m ++ pl.also) := by
  have hlt : p < seen.length := by rw [h.len]; exact (List.getElem?_eq_some_iff.1 hpl).1
  have hs : ∀ q, (seen.set p v)[q]? = some v ↔ seen[q]? = some v ∨ q = p := by
    intro q
    by_cases e : q = p
    · subst e; simp [List.getElem?_set_self hlt]
    · rw [List.getElem?_set_ne (Ne.symm e)]; simp [e]
  have hTp : T p := h.moreT p (by simp)
  refine ⟨by simp [h.len], ?_, ?_, ?_, ?_, ?_⟩
  · intro q x hq
    by_cases e : q = p
    · subst e; rw [List.getElem?_set_self hlt] at hq; obtain rfl := Option.some.inj hq; exact Nat.le_refl _
    · rw [List.getElem?_set_ne (Ne.symm e)] at hq; exact h.old q x hq
  · intro q hq
    simp at hq
    rcases hq with hq | hq
    · exact h.moreT q (by simp [hq])
    · exact hT p pl hTp hpl q hq
  · intro q hq
    rcases (hs q).1 hq with h1 | rfl
    · exact h.marksT q h1
    · exact hTp
  · intro p' pl' h1 h2 q hq
    rcases (hs p').1 h1 with h3 | rfl
    · rcases h.closed p' pl' h3 h2 q hq with h4 | h4
      · exact .inl ((hs q).2 (.inl h4))
      · simp at h4
        rcases h4 with h4 | rfl
        · exact .inr (by simp [h4])
        · exact .inl ((hs q).2 (.inr rfl))
    · rw [hpl] at h2; obtain rfl := Option.some.inj h2
      exact .inr (by simp [hq])
  · intro q
    rw [hs q, ← h.iff_ q]
    simp
theorem Gath.more {P : List Pl} {T : Nat → Prop} {v : Nat} {seen at_ : List Nat} {p : Nat} (h : Gath P T v seen at_ []) (hp : T p) : Gath P T v seen at_ [p] :=
  ⟨h.len, h.old, fun q hq => by simp at hq; subst hq; exact hp, h.marksT, fun p' pl h1 h2 q hq => .inl (by rcases h.closed p' pl h1 h2 q hq with h3 | h3; exact h3; cases h3), h.iff_⟩
/-- For a text that is longer by one nothing is gathered yet. -/
theorem gath_new {P : List Pl} {T : Nat → Prop} {v : Nat} {seen : List Nat} (hl : seen.length = P.length) (ho : ∀ (p x : Nat), seen[p]? = some x → x < v) : Gath P T v seen [] [] := by
  have hn : ∀ p : Nat, seen[p]? = some v → False := fun p h => absurd (ho p v h) (Nat.lt_irrefl _)
  exact ⟨hl, fun p x h => Nat.le_of_lt (ho p x h), by simp, fun p h => (hn p h).elim, fun p pl h => (hn p h).elim, fun p => ⟨by simp, fun h => (hn p h).elim⟩⟩

theorem reach_also {P : List Pl} {f : Nat} {s : List UInt8} : ∀ p pl, Reach P f s p → P[p]? = some pl → ∀ q ∈ pl.also, Reach P f s q :=
  fun p pl h hp q hq => h.eps (.step p q q pl hp hq (.refl q))

/-- What is gathered is closed. -/
theorem gath_eps {P : List Pl} {T : Nat → Prop} {v : Nat} {seen at_ : List Nat} (h : Gath P T v seen at_ []) {p q : Nat} (hp : seen[p]? = some v) (he : Eps P p q) : seen[q]? = some v := by
  induction he with
  | refl => exact hp
  | step p q r pl hpl hq _ ih =>
    rcases h.closed p pl hp hpl q hq with h1 | h1
    · exact ih h1
    · cases h1
theorem gath_start {P : List Pl} {f v : Nat} {seen at_ : List Nat} (h : Gath P (Reach P f []) v seen at_ []) (hf : seen[f]? = some v) : ∀ q, q ∈ at_ ↔ Reach P f [] q := by
  intro q
  rw [h.iff_]
  refine ⟨h.marksT q, fun hr => ?_⟩
  generalize hs : ([] : List UInt8) = s at hr
  cases hr with
  | start _ he => exact gath_eps h hf he
  | step s x p _ pl hp h1 hx hq => simp at hs
theorem gath_next {P : List Pl} {f v : Nat} {seen A at_ : List Nat} {s : List UInt8} {x : UInt8} (hA : ∀ q, q ∈ A ↔ Reach P f s q) (h : Gath P (Reach P f (s ++ [x])) v seen at_ [])
    (hall : ∀ p ∈ A, ∀ pl, P[p]? = some pl → hasX pl.b x.toNat = true → seen[pl.next]? = some v) : ∀ q, q ∈ at_ ↔ Reach P f (s ++ [x]) q := by
  intro q
  rw [h.iff_]
  refine ⟨h.marksT q, fun hr => ?_⟩
  generalize hs : s ++ [x] = s' at hr
  cases hr with
  | start _ he => simp at hs
  | step s2 x2 p _ pl hp h1 hx hq =>
    have e := List.append_inj' hs rfl
    obtain ⟨rfl, e2⟩ := e
    injection e2 with e3
    subst e3
    exact gath_eps h (hall p ((hA p).2 hp) pl h1 hx) hq

end Go.Proofs.X3
