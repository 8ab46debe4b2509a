/- Texts that are put together: what they are read as. -/
import Derived.Test.YtndefngkkikkeaaXd
set_option linter.unusedVariables false
set_option linter.unusedSimpArgs false
namespace Go.Proofs.X3

theorem take_some {s : List UInt8} {i : Nat} {b : UInt8} (h : s[i]? = some b) : take s i = .ok b (i + 1) := by unfold take; rw [h]
theorem passed_some {s : List UInt8} {i : Nat} {b : UInt8} (h : s[i]? = some b) (c : Nat) : passed s i c = decide (b.toNat = c) := by unfold passed; rw [h]
theorem passed_none {s : List UInt8} {i : Nat} (h : s[i]? = none) (c : Nat) : passed s i c = false := by unfold passed; rw [h]
theorem endW_some {s : List UInt8} {i : Nat} {b : UInt8} (h : s[i]? = some b) : endW s i = decide (b.toNat = 124 ∨ b.toNat = 41) := by unfold endW; rw [h]
theorem endW_none {s : List UInt8} {i : Nat} (h : s[i]? = none) : endW s i = true := by unfold endW; rw [h]

/-- What stands at i is no sign behind a piece. -/
def noPost (s : List UInt8) (i : Nat) : Prop := passed s i 42 = false ∧ passed s i 43 = false ∧ passed s i 63 = false

theorem post_none {s : List UInt8} {f i : Nat} {r : RX} (h : noPost s i) : postX s (f + 1) i r = .ok r i := by
  unfold postX
  rw [h.1, h.2.1, h.2.2]
  simp
theorem post_star {s : List UInt8} {f i : Nat} {r : RX} (h : s[i]? = some 42) : postX s (f + 1) i r = (sizedX (.star r) (i + 1)).bind fun r j => postX s f j r := by
  conv => lhs; unfold postX
  rw [passed_some h]
  rfl
theorem post_plus {s : List UInt8} {f i : Nat} {r : RX} (h : s[i]? = some 43) : postX s (f + 1) i r = (sizedX (.cat [r, .star r]) (i + 1)).bind fun r j => postX s f j r := by
  conv => lhs; unfold postX
  rw [passed_some h, passed_some h]
  rfl
theorem post_quest {s : List UInt8} {f i : Nat} {r : RX} (h : s[i]? = some 63) : postX s (f + 1) i r = (sizedX (.alt [r, .empty]) (i + 1)).bind fun r j => postX s f j r := by
  conv => lhs; unfold postX
  rw [passed_some h, passed_some h, passed_some h]
  rfl

/-- A text in round brackets is an atom. -/
theorem atom_paren {t a : List UInt8} {p f : Nat} {r : RX} (h0 : t[p]? = some 40) (h : Emb a t (p + 1)) (ha : parseX a = .inr r) (hf : a.length + 1 ≤ f) :
    atomX (waysX t f) t p = .ok r (p + a.length + 2) ∧ r.size ≤ 500 := by
  have hp := parse_in h ha f hf
  refine ⟨?_, hp.2⟩
  unfold atomX
  rw [take_some h0]
  show ((waysX t f (p + 1)).bind fun r k => (take t k).bind fun c m => if c.toNat = 41 then .ok r m else .err 5) = _
  rw [hp.1]
  show ((take t (p + 1 + a.length)).bind fun c m => if c.toNat = 41 then PR.ok r m else .err 5) = _
  rw [take_some h.behind]
  show PR.ok r (p + 1 + a.length + 1) = _
  rw [show p + 1 + a.length + 1 = p + a.length + 2 by omega]

theorem piece_paren {t a : List UInt8} {p f : Nat} {r : RX} (h0 : t[p]? = some 40) (h : Emb a t (p + 1)) (ha : parseX a = .inr r) (hf : a.length + 1 ≤ f) :
    pieceX (waysX t f) t p = postX t (t.length + 1) (p + a.length + 2) r ∧ r.size ≤ 500 := by
  have hp := atom_paren h0 h ha hf
  refine ⟨?_, hp.2⟩
  unfold pieceX
  rw [hp.1]
  show ((sizedX r (p + a.length + 2)).bind fun r j => postX t (t.length + 1) j r) = _
  unfold sizedX
  rw [if_neg (by omega)]
  rfl
theorem sized_ok {r : RX} {i : Nat} (h : r.size ≤ 500) : sizedX r i = .ok r i := by unfold sizedX; rw [if_neg (by omega)]
theorem sized_err {r : RX} {i : Nat} (h : 500 < r.size) : sizedX r i = .err 4 := by unfold sizedX; rw [if_pos h]

theorem emb_of {u a v : List UInt8} : Emb a (u ++ a ++ 41 :: v) u.length := by
  constructor
  · intro i hi
    rw [List.append_assoc, List.getElem?_append_right (by omega), Nat.add_sub_cancel_left, List.getElem?_append_left hi]
  · rw [List.getElem?_append_right (by simp), List.length_append, Nat.sub_self]; rfl

theorem wayL_end {W : Nat → PR RX} {s : List UInt8} {f i : Nat} {l : List RX} (h : endW s i = true) : wayL W s (f + 1) i l = .ok l i := by
  unfold wayL; rw [if_pos h]
theorem wayL_go {W : Nat → PR RX} {s : List UInt8} {f i j : Nat} {l : List RX} {r : RX} (h : endW s i = false) (hp : pieceX W s i = .ok r j) : wayL W s (f + 1) i l = wayL W s f j (l ++ [r]) := by
  conv => lhs; unfold wayL
  rw [h, hp]; rfl
theorem wayL_err {W : Nat → PR RX} {s : List UInt8} {f i e : Nat} {l : List RX} (h : endW s i = false) (hp : pieceX W s i = .err e) : wayL W s (f + 1) i l = .err e := by
  conv => lhs; unfold wayL
  rw [h, hp]; rfl

/-- How a whole text is read, if its only way is so and so. -/
theorem parse_one {t : List UInt8} {l : List RX} (ht : t.length ≤ 200) (h : wayL (waysX t t.length) t (t.length + 1) 0 [] = .ok l t.length) :
    parseX t = if 500 < (mkCat l).size then .inl 4 else .inr (mkCat l) := by
  have hn : t[t.length]? = none := List.getElem?_eq_none (Nat.le_refl _)
  have hw : waysX t (t.length + 1) 0 = .ok (mkCat l) t.length := by
    unfold waysX waysL wayX
    rw [h]
    show ((if passed t t.length 124 = true then _ else PR.ok ([] ++ [mkCat l]) t.length).bind fun l j => PR.ok (mkAlt l) j) = _
    rw [passed_none hn]
    rfl
  unfold parseX
  rw [if_neg (by omega), hw]
  show (if t.length < t.length then _ else _) = _
  rw [if_neg (by omega)]
theorem parse_err {t : List UInt8} {e : Nat} (ht : t.length ≤ 200) (h : wayL (waysX t t.length) t (t.length + 1) 0 [] = .err e) : parseX t = .inl e := by
  have hw : waysX t (t.length + 1) 0 = .err e := by
    unfold waysX waysL wayX
    rw [h]
    rfl
  unfold parseX
  rw [if_neg (by omega), hw]
/-- Two ways with a bar between. -/
theorem parse_two {t : List UInt8} {l m : List RX} {k : Nat} (ht : t.length ≤ 200) (h : wayL (waysX t t.length) t (t.length + 1) 0 [] = .ok l k) (hk : t[k]? = some 124) (h2 : wayL (waysX t t.length) t (t.length + 1) (k + 1) [] = .ok m t.length) :
    parseX t = if 500 < (RX.alt [mkCat l, mkCat m]).size then .inl 4 else .inr (.alt [mkCat l, mkCat m]) := by
  have hn : t[t.length]? = none := List.getElem?_eq_none (Nat.le_refl _)
  have hkl := (List.getElem?_eq_some_iff.1 hk).1
  obtain ⟨n, hn1⟩ : ∃ n, t.length = n + 1 := ⟨t.length - 1, by omega⟩
  have hw : waysX t (t.length + 1) 0 = .ok (.alt [mkCat l, mkCat m]) t.length := by
    unfold waysX
    have e1 : wayX (waysX t t.length) t 0 = .ok (mkCat l) k := by unfold wayX; rw [h]; rfl
    have e2 : wayX (waysX t t.length) t (k + 1) = .ok (mkCat m) t.length := by unfold wayX; rw [h2]; rfl
    have e3 : waysL (waysX t t.length) t (t.length + 1) 0 [] = .ok [mkCat l, mkCat m] t.length := by
      conv => lhs; unfold waysL
      rw [e1]
      show (if passed t k 124 = true then waysL (waysX t t.length) t t.length (k + 1) ([] ++ [mkCat l]) else _) = _
      rw [passed_some hk, show decide (UInt8.toNat 124 = 124) = true from rfl, if_pos rfl]
      conv => lhs; arg 3; rw [hn1]
      unfold waysL
      rw [e2]
      show (if passed t t.length 124 = true then _ else PR.ok ([] ++ [mkCat l] ++ [mkCat m]) t.length) = _
      rw [passed_none hn]
      rfl
    rw [e3]
    rfl
  unfold parseX
  rw [if_neg (by omega), hw]
  show (if t.length < t.length then _ else _) = _
  rw [if_neg (by omega)]
end Go.Proofs.X3
