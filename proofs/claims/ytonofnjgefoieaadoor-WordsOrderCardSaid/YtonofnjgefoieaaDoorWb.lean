/- Plain mathematics of words: what is quoted is read again. -/
import Derived.Test.YtonofnjgefoieaaDoorWa
set_option linter.unusedVariables false
namespace Go.Proofs.W8
open Go

/-- The rest of a regex as a word, with its end; none where there is none. -/
def qt : List UInt8 → Option (List UInt8)
  | [] => some [47]
  | [b] => if b.toNat = 10 then none else if b.toNat = 47 then some [92, 47, 47] else if b.toNat = 92 then none else some [b, 47]
  | b :: c :: l =>
    if b.toNat = 10 then none
    else if b.toNat = 47 then (qt (c :: l)).map (fun x => 92 :: 47 :: x)
    else if b.toNat = 92 then (if c.toNat = 47 ∨ c.toNat = 10 then none else (qt l).map (fun x => b :: c :: x))
    else (qt (c :: l)).map (fun x => b :: x)

theorem qt_len : ∀ l q, qt l = some q → q.length ≤ 2 * l.length + 1 := by
  intro l
  induction l using qt.induct with
  | case1 => intro q h; simp [qt] at h; subst h; simp
  | case2 b h1 => intro q h; simp [qt, h1] at h
  | case3 b h1 h2 => intro q h; simp [qt, h2] at h; subst h; simp
  | case4 b h1 h2 h3 => intro q h; simp [qt, h3] at h
  | case5 b h1 h2 h3 => intro q h; simp [qt, h1, h2, h3] at h; subst h; simp
  | case6 b c l h1 => intro q h; simp [qt, h1] at h
  | case7 b c l h1 h2 ih => intro q h; simp [qt, h2] at h; obtain ⟨x, hx, rfl⟩ := h; have := ih x hx; simp at this ⊢; omega
  | case8 b c l h1 h2 h3 h4 => intro q h; simp [qt, h3, h4] at h
  | case9 b c l h1 h2 h3 h4 ih => intro q h; simp [qt, h3, h4] at h; obtain ⟨x, hx, rfl⟩ := h; have := ih x hx; simp at this ⊢; omega
  | case10 b c l h1 h2 h3 ih => intro q h; simp [qt, h1, h2, h3] at h; obtain ⟨x, hx, rfl⟩ := h; have := ih x hx; simp at this ⊢; omega

theorem rx_plain (b : UInt8) (q : List UInt8) (h1 : ¬ b.toNat = 10) (h2 : ¬ b.toNat = 47) (h3 : ¬ b.toNat = 92) : rx (b :: q) = (rx q).map (fun x => (b :: x.1, x.2 + 1)) := by
  cases q with
  | nil => simp [rx, h2]
  | cons c q => simp [rx, h1, h2, h3]

theorem u8_eq {b : UInt8} {n : Nat} (hn : n < 256) (h : b.toNat = n) : b = n.toUInt8 := by
  apply UInt8.toNat_inj.1; simp [h]; omega

theorem rx_qt : ∀ l q, qt l = some q → rx q = some (l, q.length) := by
  intro l
  induction l using qt.induct with
  | case1 => intro q h; simp [qt] at h; subst h; rfl
  | case2 b h1 => intro q h; simp [qt, h1] at h
  | case3 b h1 h2 =>
    intro q h; simp [qt, h2] at h; subst h
    have : b = 47 := u8_eq (by decide) h2
    subst this; rfl
  | case4 b h1 h2 h3 => intro q h; simp [qt, h3] at h
  | case5 b h1 h2 h3 =>
    intro q h; simp [qt, h1, h2, h3] at h; subst h
    rw [rx_plain b _ h1 h2 h3]; rfl
  | case6 b c l h1 => intro q h; simp [qt, h1] at h
  | case7 b c l h1 h2 ih =>
    intro q h; simp [qt, h2] at h; obtain ⟨x, hx, rfl⟩ := h
    have : b = 47 := u8_eq (by decide) h2
    subst this
    simp [rx, ih x hx]
  | case8 b c l h1 h2 h3 h4 => intro q h; simp [qt, h3, h4] at h
  | case9 b c l h1 h2 h3 h4 ih =>
    intro q h; simp [qt, h3, h4] at h; obtain ⟨x, hx, rfl⟩ := h
    have e : b = 92 := u8_eq (by decide) h3
    subst e
    simp [rx, ih x hx, not_or.1 h4]
  | case10 b c l h1 h2 h3 ih =>
    intro q h; simp [qt, h1, h2, h3] at h; obtain ⟨x, hx, rfl⟩ := h
    rw [rx_plain b _ h1 h2 h3, ih x hx]; simp

/-- What is quoted is one word, a regex, and an end. -/
theorem words_quote (s q : List UInt8) (h : qt s = some q) (hs : s.length ≤ 400) : words (47 :: q) = ([⟨3, s, 0, 0⟩, ⟨4, [], 0, q.length + 1⟩], 0, 0) := by
  have hl := qt_len s q h
  refine Wr.words ?_ (by simp; omega)
  refine .wd (47 :: q) 0 [] 3 s 0 (q.length + 1) _ (by simp) ?_ ?_
  · have h2 : stp (47 :: q) = rd (47 :: q) := by simp [stp]
    rw [h2]
    simp [rd, lt, dg, mk, rx_qt s q h]
  · have h3 : (47 :: q).drop (q.length + 1) = [] := by simp
    rw [h3]
    have := Wr.done (0 + (q.length + 1)) [⟨3, s, 0, 0⟩]
    simpa [enL] using this

end Go.Proofs.W8
