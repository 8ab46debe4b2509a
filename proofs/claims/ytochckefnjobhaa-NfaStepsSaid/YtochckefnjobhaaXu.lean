/- The document's example, in plain mathematics. -/
import Derived.Test.YtochckefnjobhaaQh
import Derived.Test.YtochckefnjobhaaRt
set_option linter.unusedVariables false
namespace Go.Proofs.Ytochckefnjobhaa
open Go Go.RowKit Go.Lib
open X3 (RX Pl)

abbrev exA : RX := .bytes 0 8589934592 0 0
abbrev exB : RX := .bytes 0 17179869184 0 0
theorem ex_parse0 : X3.parseX [97, 42] = .inr (.star exA) := by rfl
theorem ex_parse1 : X3.parseX [97, 98] = .inr (.cat [exA, exB]) := by rfl
theorem byte_is (c : Nat) (b : Nat) (hb : ∀ n : Fin 256, ((if n.val < 64 then 0 else if n.val < 128 then b else if n.val < 192 then 0 else 0) >>> (n.val % 64)) % 2 = 1 → n.val = c) {s : List UInt8} (h : X3.Mt (.bytes 0 b 0 0) s) : ∃ x : UInt8, s = [x] ∧ x.toNat = c := by
  cases h with
  | byte _ _ _ _ x h => exact ⟨x, rfl, hb ⟨x.toNat, x.toNat_lt⟩ h⟩
set_option maxRecDepth 10000 in
theorem mt_a {s : List UInt8} (h : X3.Mt exA s) : s = [97] := by
  obtain ⟨x, rfl, hx⟩ := byte_is 97 8589934592 (by decide) h
  have : x = 97 := UInt8.toNat_inj.1 hx
  rw [this]
set_option maxRecDepth 10000 in
theorem mt_b {s : List UInt8} (h : X3.Mt exB s) : s = [98] := by
  obtain ⟨x, rfl, hx⟩ := byte_is 98 17179869184 (by decide) h
  have : x = 98 := UInt8.toNat_inj.1 hx
  rw [this]
theorem mt_a' : X3.Mt exA [97] := .byte _ _ _ _ 97 (by decide)
theorem mt_b' : X3.Mt exB [98] := .byte _ _ _ _ 98 (by decide)
theorem mt_star {s : List UInt8} {r : RX} (h : X3.Mt r s) : r = .star exA → ∀ x ∈ s, x = 97 := by
  intro e
  generalize hs : s = t at h
  induction h using X3.Mt.rec (motive_2 := fun _ _ _ => True) generalizing s with
  | empty => cases e
  | byte => cases e
  | cat => cases e
  | alt => cases e
  | star0 => intro x hx; cases hx
  | star1 r s1 s2 h1 h2 ih1 ih2 =>
    injection e with e
    subst e
    rw [mt_a h1]
    intro x hx
    simp at hx
    rcases hx with rfl | hx
    · rfl
    · exact ih2 rfl rfl x hx
  | nil => trivial
  | cons => trivial
theorem mt_cat {s : List UInt8} (h : X3.Mt (.cat [exA, exB]) s) : s = [97, 98] := by
  cases h with
  | cat _ _ h =>
    cases h with
    | cons _ _ s t h h2 =>
      cases h2 with
      | cons _ _ s2 t2 h3 h4 =>
        cases h4
        rw [mt_a h, mt_b h3]
        rfl
theorem mt_cat' : X3.Mt (.cat [exA, exB]) [97, 98] := .cat _ _ (.cons _ _ [97] [98] mt_a' (.cons _ _ [98] [] mt_b' .nil))
theorem mt_star1 : X3.Mt (.star exA) [97] := .star1 _ [97] [] mt_a' (.star0 _)

abbrev exL : List RX := [.star exA, .cat [exA, exB]]
theorem bit1 (i : Nat) : (1 : Nat).testBit i = true ↔ i = 0 := by
  rw [show (1 : Nat) = 2 ^ 0 from rfl, Nat.testBit_two_pow]; simp; omega
theorem bit2 (i : Nat) : (2 : Nat).testBit i = true ↔ i = 1 := by
  rw [show (2 : Nat) = 2 ^ 1 from rfl, Nat.testBit_two_pow]; simp; omega
theorem ex_run {s : List UInt8} {n : Nat} (hn : n < 18446744073709551616) (h : ∀ i, n.testBit i = true ↔ (i = 0 ∧ X3.Mt (.star exA) s) ∨ (i = 1 ∧ X3.Mt (.cat [exA, exB]) s)) : RunR exL s n := by
  refine ⟨hn, fun i => (h i).trans ?_⟩
  constructor
  · rintro (⟨rfl, h⟩ | ⟨rfl, h⟩)
    · exact ⟨_, rfl, h⟩
    · exact ⟨_, rfl, h⟩
  · rintro ⟨r, hr, h⟩
    match i, hr with
    | 0, hr => simp at hr; subst hr; exact .inl ⟨rfl, h⟩
    | 1, hr => simp at hr; subst hr; exact .inr ⟨rfl, h⟩
theorem ex_run1 : RunR exL [97] 1 := ex_run (by decide) fun i => by
  rw [bit1]
  constructor
  · rintro rfl; exact .inl ⟨rfl, mt_star1⟩
  · rintro (⟨rfl, _⟩ | ⟨_, h⟩)
    · rfl
    · have := mt_cat h; simp at this
theorem ex_run2 : RunR exL [97, 98] 2 := ex_run (by decide) fun i => by
  rw [bit2]
  constructor
  · rintro rfl; exact .inr ⟨rfl, mt_cat'⟩
  · rintro (⟨_, h⟩ | ⟨rfl, _⟩)
    · have := mt_star h rfl 98 (by simp); simp at this
    · rfl
theorem ex_run0 : RunR exL [] 1 := ex_run (by decide) fun i => by
  rw [bit1]
  constructor
  · rintro rfl; exact .inl ⟨rfl, .star0 _⟩
  · rintro (⟨rfl, _⟩ | ⟨_, h⟩)
    · rfl
    · have := mt_cat h; simp at this
end Go.Proofs.Ytochckefnjobhaa
