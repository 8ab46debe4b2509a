/- What is shown is read again: the bytes. -/
import Derived.Test.YtndefngkkikkeaaXh
import Derived.Test.YtndefngkkikkeaaXj
import Derived.Test.YtndefngkkikkeaaSe
set_option linter.unusedVariables false
set_option linter.unusedSimpArgs false
namespace Go.Proofs.X3
/-- A text stands at a place of another one. -/
def At (t : List UInt8) (p : Nat) (s : List UInt8) : Prop := ∀ i, i < s.length → t[p + i]? = s[i]?
theorem At.app {t a b : List UInt8} {p : Nat} (h : At t p (a ++ b)) : At t p a ∧ At t (p + a.length) b := by
  constructor
  · intro i hi
    rw [h i (by simp; omega), List.getElem?_append_left hi]
  · intro i hi
    rw [Nat.add_assoc, h (a.length + i) (by simp; omega), List.getElem?_append_right (by omega), Nat.add_sub_cancel_left]
theorem At.cons {t s : List UInt8} {p : Nat} {x : UInt8} (h : At t p (x :: s)) : t[p]? = some x ∧ At t (p + 1) s := by
  constructor
  · exact h 0 (by simp)
  · intro i hi
    rw [Nat.add_assoc, Nat.add_comm 1 i, h (i + 1) (by simp; omega)]; rfl
theorem At.le {t s : List UInt8} {p : Nat} (h : At t p s) (h0 : s ≠ []) : p + s.length ≤ t.length := by
  have hl : 0 < s.length := List.length_pos_iff.2 h0
  have := h (s.length - 1) (by omega)
  rw [show s[s.length - 1]? = some (s[s.length - 1]'(by omega)) from List.getElem?_eq_getElem (by omega)] at this
  have := (List.getElem?_eq_some_iff.1 this).1
  omega

theorem hexd_nat {k : Nat} (hk : k < 16) : (hexd k).toNat = if k < 10 then 48 + k else 87 + k := by
  unfold hexd
  split
  · rw [UInt8.toNat_ofNat']; omega
  · rw [UInt8.toNat_ofNat']; omega
theorem digit_hexd {t : List UInt8} {i k : Nat} (hk : k < 16) (h : t[i]? = some (hexd k)) : digitX t i = .ok k (i + 1) := by
  unfold digitX
  rw [take_some h]
  show (if 48 ≤ (hexd k).toNat ∧ (hexd k).toNat ≤ 57 then PR.ok ((hexd k).toNat - 48) (i + 1) else if 97 ≤ (hexd k).toNat ∧ (hexd k).toNat ≤ 102 then PR.ok ((hexd k).toNat - 87) (i + 1) else .err 5) = _
  rw [hexd_nat hk]
  by_cases c : k < 10
  · rw [if_pos c, if_pos (by omega)]
    congr 1; omega
  · rw [if_neg c, if_neg (by omega), if_pos (by omega)]
    congr 1; omega
theorem item_hex {t : List UInt8} {p n : Nat} (hn : n < 256) (h : At t p (hexB n)) (h2 : passed t (p + 4) 45 = false) : itemX t p = .ok (spanX n n) (p + 4) := by
  obtain ⟨a0, h⟩ := At.cons h
  obtain ⟨a1, h⟩ := At.cons h
  obtain ⟨a2, h⟩ := At.cons h
  obtain ⟨a3, h⟩ := At.cons h
  have e : escX t (p + 1) = .ok n (p + 4) := by
    unfold escX
    rw [take_some a1]
    show ((digitX t (p + 1 + 1)).bind fun h k => (digitX t k).bind fun l m => PR.ok (h * 16 + l) m) = _
    rw [digit_hexd (by omega) a2]
    show ((digitX t (p + 1 + 1 + 1)).bind fun l m => PR.ok (n / 16 * 16 + l) m) = _
    rw [digit_hexd (by omega) a3]
    show PR.ok (n / 16 * 16 + n % 16) (p + 1 + 1 + 1 + 1) = _
    congr 1
    omega
  have i : itemByte t p = .ok n (p + 4) := by
    unfold itemByte
    rw [take_some a0]
    exact e
  unfold itemX
  rw [i]
  show (if passed t (p + 4) 45 = true then _ else PR.ok (spanX n n) (p + 4)) = _
  rw [h2]
  rfl

def hasIn (r : RX) (n : Nat) : List Nat := (List.range n).filter fun b => hasX r b
theorem shown_flat (r : RX) (n : Nat) : shownTo r n = (hasIn r n).flatMap hexB := by
  induction n with
  | zero => rfl
  | succ n ih =>
    unfold hasIn at ih ⊢
    rw [List.range_succ, List.filter_append, List.flatMap_append, ← ih]
    conv => lhs; unfold shownTo
    congr 1
    cases c : hasX r n <;> simp [c]
theorem hasIn_mem {r : RX} {n b : Nat} : b ∈ hasIn r n ↔ b < n ∧ hasX r b = true := by
  unfold hasIn
  rw [List.mem_filter, List.mem_range]

theorem itemsL_read {t : List UInt8} : ∀ (L : List Nat), (∀ b ∈ L, b < 256) → ∀ (F p : Nat) (acc : RX), At t p (L.flatMap hexB ++ [93]) → L.length < F →
    itemsL t F p acc = .ok (L.foldl (fun a b => orX a (spanX b b)) acc) (p + 4 * L.length + 1)
  | [], _, 0, _, _, _, hF => by simp at hF
  | [], _, F + 1, p, acc, h, hF => by
    have h0 := (At.cons h).1
    unfold itemsL
    rw [passed_some h0, if_pos (by decide)]
    rfl
  | b :: L, hb, 0, _, _, _, hF => by simp at hF
  | b :: L, hb, F + 1, p, acc, h, hF => by
    have h1 : At t p (hexB b ++ (L.flatMap hexB ++ [93])) := by
      rw [← List.append_assoc]; exact h
    obtain ⟨h1, h2⟩ := h1.app
    rw [show (hexB b).length = 4 from rfl] at h2
    have h0 := (At.cons h1).1
    have hn : passed t (p + 4) 45 = false := by
      cases L with
      | nil => rw [passed_some (At.cons h2).1]; decide
      | cons c L => rw [passed_some (At.cons (s := (120 :: hexd (c / 16) :: hexd (c % 16) :: (L.flatMap hexB ++ [93]))) h2).1]; decide
    unfold itemsL
    rw [passed_some h0, if_neg (by decide), item_hex (hb b (List.mem_cons_self ..)) h1 hn]
    show itemsL t F (p + 4) (orX acc (spanX b b)) = _
    rw [itemsL_read L (fun c hc => hb c (List.mem_cons_of_mem _ hc)) F (p + 4) _ h2 (by simp at hF; omega)]
    rw [List.foldl_cons, List.length_cons, show p + 4 + 4 * L.length + 1 = p + 4 * (L.length + 1) + 1 by omega]

theorem fold_words (L : List Nat) : ∀ a b c d, L.foldl (fun a b => orX a (spanX b b)) (.bytes a b c d) =
    .bytes (L.foldl (fun n b => n ||| bitsOf b b 0) a) (L.foldl (fun n b => n ||| bitsOf b b 1) b) (L.foldl (fun n b => n ||| bitsOf b b 2) c) (L.foldl (fun n b => n ||| bitsOf b b 3) d) := by
  induction L with
  | nil => intros; rfl
  | cons x L ih =>
    intro a b c d
    rw [List.foldl_cons, List.foldl_cons, List.foldl_cons, List.foldl_cons, List.foldl_cons]
    exact ih _ _ _ _
theorem fold_test (L : List Nat) (k j : Nat) : ∀ a : Nat, (L.foldl (fun n b => n ||| bitsOf b b k) a).testBit j = (a.testBit j || decide (j < 64 ∧ 64 * k + j ∈ L)) := by
  induction L with
  | nil => intro a; simp
  | cons x L ih =>
    intro a
    rw [List.foldl_cons, ih, Nat.testBit_or, bits_test, Bool.or_assoc]
    congr 1
    rw [Bool.eq_iff_iff, Bool.or_eq_true, decide_eq_true_iff, decide_eq_true_iff, decide_eq_true_iff, List.mem_cons]
    constructor
    · rintro (⟨h1, h2, h3⟩ | ⟨h1, h2⟩)
      · exact ⟨h1, .inl (by omega)⟩
      · exact ⟨h1, .inr h2⟩
    · rintro ⟨h1, h2 | h2⟩
      · exact .inl ⟨h1, by omega, by omega⟩
      · exact .inr ⟨h1, h2⟩
theorem bit_of (w j : Nat) : ((w >>> j) % 2 == 1) = w.testBit j := by
  rw [Nat.testBit_eq_decide_div_mod_eq, Nat.shiftRight_eq_div_pow]
  rfl
theorem word_is {r : RX} {w k : Nat} (hw : w < 2 ^ 64) (hk : k < 4) (h : ∀ j, j < 64 → hasX r (64 * k + j) = w.testBit j) : (hasIn r 256).foldl (fun n b => n ||| bitsOf b b k) 0 = w := by
  refine Nat.eq_of_testBit_eq fun j => ?_
  rw [fold_test, Nat.zero_testBit, Bool.false_or]
  by_cases c : j < 64
  · rw [Bool.eq_iff_iff, decide_eq_true_iff, hasIn_mem, h j c]
    constructor
    · exact fun h => h.2.2
    · exact fun h => ⟨c, by omega, h⟩
  · rw [Nat.testBit_lt_two_pow (Nat.lt_of_lt_of_le hw (Nat.pow_le_pow_right (by decide) (by omega)))]
    simp [c]
theorem words_are {a b c d : Nat} (ha : a < 2 ^ 64) (hb : b < 2 ^ 64) (hc : c < 2 ^ 64) (hd : d < 2 ^ 64) :
    (hasIn (.bytes a b c d) 256).foldl (fun a b => orX a (spanX b b)) (.bytes 0 0 0 0) = .bytes a b c d := by
  rw [fold_words]
  rw [word_is ha (by decide) fun j hj => ?_, word_is hb (by decide) fun j hj => ?_, word_is hc (by decide) fun j hj => ?_, word_is hd (by decide) fun j hj => ?_]
  all_goals
    rw [← bit_of]
    unfold hasX
    simp only []
  · rw [if_neg (by omega), if_neg (by omega), if_neg (by omega), show (64 * 3 + j) % 64 = j by omega]
  · rw [if_neg (by omega), if_neg (by omega), if_pos (by omega), show (64 * 2 + j) % 64 = j by omega]
  · rw [if_neg (by omega), if_pos (by omega), show (64 * 1 + j) % 64 = j by omega]
  · rw [if_pos (by omega), show (64 * 0 + j) % 64 = j by omega]
end Go.Proofs.X3
