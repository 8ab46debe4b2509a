/- The texts of a range, in square brackets: what they are read as. -/
import Derived.Test.YtndefngkkikkeaaXk
import Derived.Test.YtndefngkkikkeaaXi
set_option linter.unusedVariables false
namespace Go.Proofs.X3
open Go

def rangeT (lo hi : Nat) : List UInt8 := hexB lo ++ 45 :: hexB hi
theorem byte_hex {t : List UInt8} {p n : Nat} (hn : n < 256) (h : At t p (hexB n)) : itemByte t p = .ok n (p + 4) := by
  obtain ⟨a0, h⟩ := At.cons h
  obtain ⟨a1, h⟩ := At.cons h
  obtain ⟨a2, h⟩ := At.cons h
  obtain ⟨a3, h⟩ := At.cons h
  have e : escX t (p + 1) = .ok n (p + 4) := by
    unfold escX
    rw [take_some a1]
    show ((digitX t (p + 1 + 1)).bind fun h k => (digitX t k).bind fun l m => PR.ok (h * 16 + l) m) = _
    rw [digit_hexd (by omega) a2]
    show ((digitX t (p + 1 + 1 + 1)).bind fun l m => PR.ok (n / 16 * 16 + l) m) = _
    rw [digit_hexd (by omega) a3]
    show PR.ok (n / 16 * 16 + n % 16) (p + 1 + 1 + 1 + 1) = _
    congr 1
    omega
  unfold itemByte
  rw [take_some a0]
  exact e
theorem hexB_len (n : Nat) : (hexB n).length = 4 := rfl
theorem item_range {t : List UInt8} {p lo hi : Nat} (h1 : lo < 256) (h2 : hi < 256) (h : At t p (rangeT lo hi)) : itemX t p = if hi < lo then .err 5 else .ok (spanX lo hi) (p + 9) := by
  obtain ⟨ha, h⟩ := At.app h
  obtain ⟨hm, h⟩ := At.cons h
  rw [hexB_len] at hm h
  unfold itemX
  rw [byte_hex h1 ha]
  show (if passed t (p + 4) 45 = true then ((itemByte t (p + 4 + 1)).bind fun hi k => if hi < lo then PR.err 5 else PR.ok (spanX lo hi) k) else _) = _
  rw [passed_some hm, if_pos (by decide), byte_hex h2 h]
  rfl
theorem orX_zero (lo hi : Nat) : orX (.bytes 0 0 0 0) (spanX lo hi) = spanX lo hi := by
  unfold spanX orX
  simp
theorem items_range {t : List UInt8} {p lo hi F : Nat} (h1 : lo < 256) (h2 : hi < 256) (h : At t p (rangeT lo hi ++ [93])) (hF : 2 ≤ F) :
    itemsL t F p (.bytes 0 0 0 0) = if hi < lo then .err 5 else .ok (spanX lo hi) (p + 10) := by
  obtain ⟨f, rfl⟩ : ∃ f, F = f + 2 := ⟨F - 2, by omega⟩
  obtain ⟨ha, hb⟩ := At.app h
  have h0 : t[p]? = some 92 := (At.cons (s := [120, hexd (lo / 16), hexd (lo % 16)] ++ 45 :: hexB hi) ha).1
  have h9 : t[p + 9]? = some 93 := (At.cons hb).1
  conv => lhs; unfold itemsL
  rw [passed_some h0, if_neg (by decide), item_range h1 h2 ha]
  by_cases c : hi < lo
  · rw [if_pos c, if_pos c]; rfl
  · rw [if_neg c, if_neg c]
    show itemsL t (f + 1) (p + 9) (orX (.bytes 0 0 0 0) (spanX lo hi)) = _
    conv => lhs; unfold itemsL
    rw [passed_some h9, if_pos (by decide), orX_zero]
/-- One atom that is a whole text. -/
theorem parse_atom {t : List UInt8} {r : RX} (ht : t.length ≤ 200) (h0 : endW t 0 = false) (hs : r.size ≤ 500) (ha : ∀ W, atomX W t 0 = .ok r t.length) : parseX t = .inr r := by
  have hn : t[t.length]? = none := List.getElem?_eq_none (Nat.le_refl _)
  have hp : pieceX (waysX t t.length) t 0 = .ok r t.length := by
    unfold pieceX
    rw [ha]
    show ((sizedX r t.length).bind fun r j => postX t (t.length + 1) j r) = _
    rw [sized_ok hs]
    exact post_no (by omega) (noPost_none hn)
  have hl : 0 < t.length := by
    cases t with
    | nil => cases h0
    | cons x t => simp
  have := parse_one (t := t) (l := [r]) ht (by
    rw [wayL_go h0 hp]
    obtain ⟨f, e⟩ : ∃ f, t.length = f + 1 := ⟨t.length - 1, by omega⟩
    have he : endW t t.length = true := endW_none hn
    rw [way_end hl he]
    rfl)
  rw [this]
  show (if 500 < r.size then _ else _) = _
  rw [if_neg (by omega)]
  rfl
theorem parse_atom_err {t : List UInt8} {e : Nat} (ht : t.length ≤ 200) (h0 : endW t 0 = false) (ha : ∀ W, atomX W t 0 = .err e) : parseX t = .inl e := by
  have hp : pieceX (waysX t t.length) t 0 = .err e := by
    unfold pieceX
    rw [ha]
    rfl
  exact parse_err ht (wayL_err h0 hp)
theorem span_size (lo hi : Nat) : (spanX lo hi).size ≤ 500 := by show 1 ≤ 500; decide
theorem others_size (lo hi : Nat) : (exceptX (spanX lo hi)).size ≤ 500 := by show 1 ≤ 500; decide
theorem parse_range {lo hi : Nat} (h1 : lo < 256) (h2 : hi < 256) : parseX (91 :: (rangeT lo hi ++ [93])) = if hi < lo then .inl 5 else .inr (spanX lo hi) := by
  have hA : At (91 :: (rangeT lo hi ++ [93])) 1 (rangeT lo hi ++ [93]) := fun i _ => by rw [Nat.add_comm, List.getElem?_cons_succ]
  have hl : (91 :: (rangeT lo hi ++ [93])).length = 11 := rfl
  have h0 : (91 :: (rangeT lo hi ++ [93]))[0]? = some 91 := rfl
  have h92 : (91 :: (rangeT lo hi ++ [93]))[1]? = some 92 := rfl
  generalize 91 :: (rangeT lo hi ++ [93]) = t at *
  have ha : ∀ W, atomX W t 0 = if hi < lo then .err 5 else .ok (spanX lo hi) 11 := by
    intro W
    unfold atomX
    rw [take_some h0]
    show itemsX t 1 = _
    unfold itemsX
    rw [passed_some h92, if_neg (by decide), items_range h1 h2 hA (by omega)]
  have he : endW t 0 = false := by rw [endW_some h0]; decide
  by_cases c : hi < lo
  · rw [if_pos c]
    exact parse_atom_err (by omega) he fun W => by rw [ha, if_pos c]
  · rw [if_neg c]
    exact parse_atom (by omega) he (span_size lo hi) fun W => by rw [ha, if_neg c, hl]
theorem parse_others {lo hi : Nat} (h1 : lo < 256) (h2 : hi < 256) : parseX (91 :: 94 :: (rangeT lo hi ++ [93])) = if hi < lo then .inl 5 else .inr (exceptX (spanX lo hi)) := by
  have hA : At (91 :: 94 :: (rangeT lo hi ++ [93])) 2 (rangeT lo hi ++ [93]) := fun i _ => by rw [Nat.add_comm, List.getElem?_cons_succ, List.getElem?_cons_succ]
  have hl : (91 :: 94 :: (rangeT lo hi ++ [93])).length = 12 := rfl
  have h0 : (91 :: 94 :: (rangeT lo hi ++ [93]))[0]? = some 91 := rfl
  have h92 : (91 :: 94 :: (rangeT lo hi ++ [93]))[1]? = some 94 := rfl
  generalize 91 :: 94 :: (rangeT lo hi ++ [93]) = t at *
  have ha : ∀ W, atomX W t 0 = if hi < lo then .err 5 else .ok (exceptX (spanX lo hi)) 12 := by
    intro W
    unfold atomX
    rw [take_some h0]
    show itemsX t 1 = _
    unfold itemsX
    rw [passed_some h92, if_pos (by decide), items_range h1 h2 hA (by omega)]
    by_cases c : hi < lo
    · rw [if_pos c, if_pos c]; rfl
    · rw [if_neg c, if_neg c]; rfl
  have he : endW t 0 = false := by rw [endW_some h0]; decide
  by_cases c : hi < lo
  · rw [if_pos c]
    exact parse_atom_err (by omega) he fun W => by rw [ha, if_pos c]
  · rw [if_neg c]
    exact parse_atom (by omega) he (others_size lo hi) fun W => by rw [ha, if_neg c, hl]
theorem has_span {lo hi b : Nat} (hb : b < 256) : hasX (spanX lo hi) b = decide (lo ≤ b ∧ b ≤ hi) := by
  have key : ∀ k, k < 4 → b / 64 = k → ((bitsOf lo hi k >>> (b % 64)) % 2 == 1) = decide (lo ≤ b ∧ b ≤ hi) := by
    intro k hk e
    rw [bit_of, bits_test]
    have : 64 * k + b % 64 = b := by omega
    rw [this]
    have : b % 64 < 64 := by omega
    simp [this]
  unfold hasX spanX
  simp only
  split
  · exact key 0 (by omega) (by omega)
  split
  · exact key 1 (by omega) (by omega)
  split
  · exact key 2 (by omega) (by omega)
  · exact key 3 (by omega) (by omega)
theorem bit_full {x j : Nat} (hj : j < 64) : (((full ^^^ x) >>> j) % 2 == 1) = !((x >>> j) % 2 == 1) := by
  rw [bit_of, bit_of, Nat.testBit_xor]
  have : full.testBit j = true := by
    have : full = 2 ^ 64 - 1 := by decide
    rw [this, Nat.testBit_two_pow_sub_one]
    simp [hj]
  rw [this, Bool.true_xor]
theorem has_others {lo hi b : Nat} (hb : b < 256) : hasX (exceptX (spanX lo hi)) b = !decide (lo ≤ b ∧ b ≤ hi) := by
  rw [← has_span hb]
  have hm : b % 64 < 64 := by omega
  unfold hasX spanX exceptX
  simp only
  split
  · exact bit_full hm
  split
  · exact bit_full hm
  split
  · exact bit_full hm
  · exact bit_full hm
theorem mt_range {lo hi : Nat} (x : UInt8) : mtB (spanX lo hi) [x] = decide (lo ≤ x.toNat ∧ x.toNat ≤ hi) := by
  rw [← has_span (UInt8.toNat_lt x)]
  refine mtB_eq ?_
  exact has_byte.symm
end Go.Proofs.X3
