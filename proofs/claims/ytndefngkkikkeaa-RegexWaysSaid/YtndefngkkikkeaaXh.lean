/- Texts that are put together: what they are read as. -/
import Derived.Test.YtndefngkkikkeaaXd
set_option linter.unusedVariables false
set_option linter.unusedSimpArgs false
namespace Go.Proofs.X3

theorem take_some {s : List UInt8} {i : Nat} {b : UInt8} (h : s[i]? = some b) : take s i = .ok b (i + 1) := by unfold take; rw [h]
theorem passed_some {s : List UInt8} {i : Nat} {b : UInt8} (h : s[i]? = some b) (c : Nat) : passed s i c = decide (b.toNat = c) := by unfold passed; rw [h]
theorem passed_none {s : List UInt8} {i : Nat} (h : s[i]? = none) (c : Nat) : passed s i c = false := by unfold passed; rw [h]
theorem endW_some {s : List UInt8} {i : Nat} {b : UInt8} (h : s[i]? = some b) : endW s i = decide (b.toNat = 124 ∨ b.toNat = 41) := by unfold endW; rw [h]
theorem endW_none {s : List UInt8} {i : Nat} (h : s[i]? = none) : endW s i = true := by unfold endW; rw [h]

/-- What stands at i is no sign behind a piece. -/
def noPost (s : List UInt8) (i : Nat) : Prop := passed s i 42 = false ∧ passed s i 43 = false ∧ passed s i 63 = false

theorem post_none {s : List UInt8} {f i : Nat} {r : RX} (h : noPost s i) : postX s (f + 1) i r = .ok r i := by
  unfold postX
  rw [h.1, h.2.1, h.2.2]
  simp
theorem post_star {s : List UInt8} {f i : Nat} {r : RX} (h : s[i]? = some 42) : postX s (f + 1) i r = (sizedX (.star r) (i + 1)).bind fun r j => postX s f j r := by
  conv => lhs; unfold postX
  rw [passed_some h]
  rfl
theorem post_plus {s : List UInt8} {f i : Nat} {r : RX} (h : s[i]? = some 43) : postX s (f + 1) i r = (sizedX (.cat [r, .star r]) (i + 1)).bind fun r j => postX s f j r := by
  conv => lhs; unfold postX
  rw [passed_some h, passed_some h]
  rfl
theorem post_quest {s : List UInt8} {f i : Nat} {r : RX} (h : s[i]? = some 63) : postX s (f + 1) i r = (sizedX (.alt [r, .empty]) (i + 1)).bind fun r j => postX s f j r := by
  conv => lhs; unfold postX
  rw [passed_some h, passed_some h, passed_some h]
  rfl

/-- A text in round brackets is an atom. -/
theorem atom_paren {t a : List UInt8} {p f : Nat} {r : RX} (h0 : t[p]? = some 40) (h : Emb a t (p + 1)) (ha : parseX a = .inr r) (hf : a.length + 1 ≤ f) :
    atomX (waysX t f) t p = .ok r (p + a.length + 2) ∧ r.size ≤ 500 := by
  have hp := parse_in h ha f hf
  refine ⟨?_, hp.2⟩
  unfold atomX
  rw [take_some h0]
  show ((waysX t f (p + 1)).bind fun r k => (take t k).bind fun c m => if c.toNat = 41 then .ok r m else .err 5) = _
  rw [hp.1]
  show ((take t (p + 1 + a.length)).bind fun c m => if c.toNat = 41 then PR.ok r m else .err 5) = _
  rw [take_some h.behind]
  show PR.ok r (p + 1 + a.length + 1) = _
  rw [show p + 1 + a.length + 1 = p + a.length + 2 by omega]

theorem piece_paren {t a : List UInt8} {p f : Nat} {r : RX} (h0 : t[p]? = some 40) (h : Emb a t (p + 1)) (ha : parseX a = .inr r) (hf : a.length + 1 ≤ f) :
    pieceX (waysX t f) t p = postX t (t.length + 1) (p + a.length + 2) r ∧ r.size ≤ 500 := by
  have hp := atom_paren h0 h ha hf
  refine ⟨?_, hp.2⟩
  unfold pieceX
  rw [hp.1]
  show ((sizedX r (p + a.length + 2)).bind fun r j => postX t (t.length + 1) j r) = _
  unfold sizedX
  rw [if_neg (by omega)]
  rfl
theorem sized_ok {r : RX} {i : Nat} (h : r.size ≤ 500) : sizedX r i = .ok r i := by unfold sizedX; rw [if_neg (by omega)]
theorem sized_err {r : RX} {i : Nat} (h : 500 < r.size) : sizedX r i = .err 4 := by unfold sizedX; rw [if_pos h]

theorem emb_of {u a v : List UInt8} : Emb a (u ++ a ++ 41 :: v) u.length := by
  constructor
  · intro i hi
    rw [List.append_assoc, List.getElem?_append_right (by omega), Nat.add_sub_cancel_left, List.getElem?_append_left hi]
  · rw [List.getElem?_append_right (by simp), List.length_append, Nat.sub_self]; rfl

theorem wayL_end {W : Nat → PR RX} {s : List UInt8} {f i : Nat} {l : List RX} (h : endW s i = true) : wayL W s (f + 1) i l = .ok l i := by
  unfold wayL; rw [if_pos h]
theorem wayL_go {W : Nat → PR RX} {s : List UInt8} {f i j : Nat} {l : List RX} {r : RX} (h : endW s i = false) (hp : pieceX W s i = .ok r j) : wayL W s (f + 1) i l = wayL W s f j (l ++ [r]) := by
  conv => lhs; unfold wayL
  rw [h, hp]; rfl
theorem wayL_err {W : Nat → PR RX} {s : List UInt8} {f i e : Nat} {l : List RX} (h : endW s i = false) (hp : pieceX W s i = .err e) : wayL W s (f + 1) i l = .err e := by
  conv => lhs; unfold wayL
  rw [h, hp]; rfl

/-- How a whole text is read, if its only way is so and so. -/
theorem parse_one {t : List UInt8} {l : List RX} (ht : t.length ≤ 200) (h : wayL (waysX t t.length) t (t.length + 1) 0 [] = .ok l t.length) :
    parseX t = if 500 < (mkCat l).size then .inl 4 else .inr (mkCat l) := by
  have hn : t[t.length]? = none := List.getElem?_eq_none (Nat.le_refl _)
  have hw : waysX t (t.length + 1) 0 = .ok (mkCat l) t.length := by
    unfold waysX waysL wayX
    rw [h]
    show ((if passed t t.length 124 = true then _ else PR.ok ([] ++ [mkCat l]) t.length).bind fun l j => PR.ok (mkAlt l) j) = _
    rw [passed_none hn]
    rfl
  unfold parseX
  rw [if_neg (by omega), hw]
  show (if t.length < t.length then _ else _) = _
  rw [if_neg (by omega)]
theorem parse_err {t : List UInt8} {e : Nat} (ht : t.length ≤ 200) (h : wayL (waysX t t.length) t (t.length + 1) 0 [] = .err e) : parseX t = .inl e := by
  have hw : waysX t (t.length + 1) 0 = .err e := by
    unfold waysX waysL wayX
    rw [h]
    rfl
  unfold parseX
  rw [if_neg (by omega), hw]
/-- Two ways with a bar between. -/
theorem parse_two {t : List UInt8} {l m : List RX} {k : Nat} (ht : t.length ≤ 200) (h : wayL (waysX t t.length) t (t.length + 1) 0 [] = .ok l k) (hk : t[k]? = some 124) (h2 : wayL (waysX t t.length) t (t.length + 1) (k + 1) [] = .ok m t.length) :
    parseX t = if 500 < (RX.alt [mkCat l, mkCat m]).size then .inl 4 else .inr (.alt [mkCat l, mkCat m]) := by
  have hn : t[t.length]? = none := List.getElem?_eq_none (Nat.le_refl _)
  have hkl := (List.getElem?_eq_some_iff.1 hk).1
  obtain ⟨n, hn1⟩ : ∃ n, t.length = n + 1 := ⟨t.length - 1, by omega⟩
  have hw : waysX t (t.length + 1) 0 = .ok (.alt [mkCat l, mkCat m]) t.length := by
    unfold waysX
    have e1 : wayX (waysX t t.length) t 0 = .ok (mkCat l) k := by unfold wayX; rw [h]; rfl
    have e2 : wayX (waysX t t.length) t (k + 1) = .ok (mkCat m) t.length := by unfold wayX; rw [h2]; rfl
    have e3 : waysL (waysX t t.length) t (t.length + 1) 0 [] = .ok [mkCat l, mkCat m] t.length := by
      conv => lhs; unfold waysL
      rw [e1]
      show (if passed t k 124 = true then waysL (waysX t t.length) t t.length (k + 1) ([] ++ [mkCat l]) else _) = _
      rw [passed_some hk, show decide (UInt8.toNat 124 = 124) = true from rfl, if_pos rfl]
      conv => lhs; arg 3; rw [hn1]
      unfold waysL
      rw [e2]
      show (if passed t t.length 124 = true then _ else PR.ok ([] ++ [mkCat l] ++ [mkCat m]) t.length) = _
      rw [passed_none hn]
      rfl
    rw [e3]
    rfl
  unfold parseX
  rw [if_neg (by omega), hw]
  show (if t.length < t.length then _ else _) = _
  rw [if_neg (by omega)]
end Go.Proofs.X3

/- What the composed texts of the laws are read as. -/
set_option linter.unusedVariables false
set_option linter.unusedSimpArgs false
namespace Go.Proofs.X3

/-- A piece in round brackets somewhere in a text. -/
theorem piece_in {t a u v : List UInt8} {x : RX} {f : Nat} (ht : t = u ++ 40 :: (a ++ 41 :: v)) (ha : parseX a = .inr x) (hf : a.length + 1 ≤ f) :
    pieceX (waysX t f) t u.length = postX t (t.length + 1) (u.length + a.length + 2) x ∧ x.size ≤ 500 ∧ endW t u.length = false ∧ ∀ k, t[u.length + a.length + 2 + k]? = v[k]? := by
  have h0 : t[u.length]? = some 40 := by rw [ht, List.getElem?_append_right (Nat.le_refl _), Nat.sub_self]; rfl
  have hE : Emb a t (u.length + 1) := by
    have e : t = (u ++ [40]) ++ a ++ 41 :: v := by rw [ht]; simp
    have h := @emb_of (u ++ [40]) a v
    rw [← e] at h
    rw [show u.length + 1 = (u ++ [40]).length by simp]
    exact h
  have hp := piece_paren h0 hE ha hf
  refine ⟨hp.1, hp.2, by rw [endW_some h0]; decide, fun k => ?_⟩
  rw [ht, show u ++ 40 :: (a ++ 41 :: v) = (u ++ 40 :: (a ++ [41])) ++ v by simp]
  rw [List.getElem?_append_right (by simp; omega)]
  congr 1
  simp
  omega

theorem noPost_some {s : List UInt8} {i : Nat} {b : UInt8} (h : s[i]? = some b) (hb : b.toNat ≠ 42 ∧ b.toNat ≠ 43 ∧ b.toNat ≠ 63) : noPost s i := by
  unfold noPost
  rw [passed_some h, passed_some h, passed_some h]
  simp [hb.1, hb.2.1, hb.2.2]
theorem noPost_none {s : List UInt8} {i : Nat} (h : s[i]? = none) : noPost s i := by
  unfold noPost
  rw [passed_none h, passed_none h, passed_none h]
  simp

/-- Too great, or it is the tree. -/
def orMany (r : RX) : Nat ⊕ RX := if 500 < r.size then .inl 4 else .inr r
theorem orMany_ok {r : RX} (h : orMany r ≠ .inl 4) : orMany r = .inr r ∧ r.size ≤ 500 := by
  unfold orMany at h ⊢
  split at h
  · exact absurd rfl h
  · rename_i hn; rw [if_neg hn]; exact ⟨rfl, by omega⟩

theorem way_go {W : Nat → PR RX} {s : List UInt8} {f i j : Nat} {l : List RX} {r : RX} (hf : 0 < f) (h : endW s i = false) (hp : pieceX W s i = .ok r j) : wayL W s f i l = wayL W s (f - 1) j (l ++ [r]) := by
  obtain ⟨g, rfl⟩ : ∃ g, f = g + 1 := ⟨f - 1, by omega⟩
  exact wayL_go h hp
theorem way_end {W : Nat → PR RX} {s : List UInt8} {f i : Nat} {l : List RX} (hf : 0 < f) (h : endW s i = true) : wayL W s f i l = .ok l i := by
  obtain ⟨g, rfl⟩ : ∃ g, f = g + 1 := ⟨f - 1, by omega⟩
  exact wayL_end h
theorem way_err {W : Nat → PR RX} {s : List UInt8} {f i e : Nat} {l : List RX} (hf : 0 < f) (h : endW s i = false) (hp : pieceX W s i = .err e) : wayL W s f i l = .err e := by
  obtain ⟨g, rfl⟩ : ∃ g, f = g + 1 := ⟨f - 1, by omega⟩
  exact wayL_err h hp
theorem post_no {s : List UInt8} {f i : Nat} {r : RX} (hf : 0 < f) (h : noPost s i) : postX s f i r = .ok r i := by
  obtain ⟨g, rfl⟩ : ∃ g, f = g + 1 := ⟨f - 1, by omega⟩
  exact post_none h
/-- A sign behind a piece, and nothing more. -/
theorem post_sign {s : List UInt8} {f i : Nat} {r r' : RX} {b : UInt8} (hf : 1 < f) (h : s[i]? = some b)
    (hb : (b = 42 ∧ r' = .star r) ∨ (b = 43 ∧ r' = .cat [r, .star r]) ∨ (b = 63 ∧ r' = .alt [r, .empty])) (hn : noPost s (i + 1)) :
    postX s f i r = if 500 < r'.size then .err 4 else .ok r' (i + 1) := by
  obtain ⟨g, rfl⟩ : ∃ g, f = g + 1 := ⟨f - 1, by omega⟩
  have k : ((sizedX r' (i + 1)).bind fun r j => postX s g j r) = if 500 < r'.size then .err 4 else .ok r' (i + 1) := by
    by_cases c : 500 < r'.size
    · rw [sized_err c, if_pos c]; rfl
    · rw [sized_ok (by omega), if_neg c]
      exact post_no (by omega) hn
  rcases hb with ⟨rfl, rfl⟩ | ⟨rfl, rfl⟩ | ⟨rfl, rfl⟩
  · rw [post_star h]; exact k
  · rw [post_plus h]; exact k
  · rw [post_quest h]; exact k

/-- (a)(b) -/
theorem parse_pair {a b : List UInt8} {x y : RX} (ha : parseX a = .inr x) (hb : parseX b = .inr y) (hl : a.length + b.length ≤ 100) :
    parseX (40 :: (a ++ 41 :: (40 :: (b ++ [41])))) = orMany (.cat [x, y]) := by
  generalize ht : 40 :: (a ++ 41 :: (40 :: (b ++ [41]))) = t
  have hlen : t.length = a.length + b.length + 4 := by rw [← ht]; simp; omega
  have p1 := piece_in (u := []) (f := t.length) ht.symm ha (by omega)
  have p2 := piece_in (t := t) (u := 40 :: (a ++ [41])) (v := []) (f := t.length) (by rw [← ht]; simp) hb (by omega)
  rw [show (40 :: (a ++ [41])).length = a.length + 2 by simp] at p2
  simp only [List.length_nil, Nat.zero_add] at p1
  have hn : t[t.length]? = none := List.getElem?_eq_none (Nat.le_refl _)
  have h1 : pieceX (waysX t t.length) t 0 = .ok x (a.length + 2) := by
    rw [p1.1]
    exact post_none (noPost_some (p1.2.2.2 0) (by decide))
  have h2 : pieceX (waysX t t.length) t (a.length + 2) = .ok y t.length := by
    rw [p2.1, show a.length + 2 + b.length + 2 = t.length by omega]
    exact post_none (noPost_none hn)
  exact parse_one (l := [x, y]) (by omega) (by
    rw [way_go (by omega) p1.2.2.1 h1, way_go (by omega) p2.2.2.1 h2, way_end (by omega) (endW_none hn)]
    rfl)

/-- (a)|(b) -/
theorem parse_bar {a b : List UInt8} {x y : RX} (ha : parseX a = .inr x) (hb : parseX b = .inr y) (hl : a.length + b.length ≤ 100) :
    parseX (40 :: (a ++ 41 :: (124 :: 40 :: (b ++ [41])))) = orMany (.alt [x, y]) := by
  generalize ht : 40 :: (a ++ 41 :: (124 :: 40 :: (b ++ [41]))) = t
  have hlen : t.length = a.length + b.length + 5 := by rw [← ht]; simp; omega
  have p1 := piece_in (u := []) (f := t.length) ht.symm ha (by omega)
  have p2 := piece_in (t := t) (u := 40 :: (a ++ [41, 124])) (v := []) (f := t.length) (by rw [← ht]; simp) hb (by omega)
  rw [show (40 :: (a ++ [41, 124])).length = a.length + 3 by simp] at p2
  simp only [List.length_nil, Nat.zero_add] at p1
  have hn : t[t.length]? = none := List.getElem?_eq_none (Nat.le_refl _)
  have hbar : t[a.length + 2]? = some 124 := p1.2.2.2 0
  have h1 : pieceX (waysX t t.length) t 0 = .ok x (a.length + 2) := by
    rw [p1.1]
    exact post_none (noPost_some hbar (by decide))
  have h2 : pieceX (waysX t t.length) t (a.length + 2 + 1) = .ok y t.length := by
    rw [p2.1, show a.length + 3 + b.length + 2 = t.length by omega]
    exact post_none (noPost_none hn)
  exact parse_two (l := [x]) (m := [y]) (k := a.length + 2) (by omega) (by
    rw [way_go (by omega) p1.2.2.1 h1, way_end (by omega) (by rw [endW_some hbar]; decide)]
    rfl) hbar (by
    rw [way_go (by omega) p2.2.2.1 h2, way_end (by omega) (endW_none hn)]
    rfl)

/-- (a)*, (a)+, (a)? -/
theorem parse_sign {a : List UInt8} {x r' : RX} {b : UInt8} (ha : parseX a = .inr x) (hl : a.length ≤ 100)
    (hb : (b = 42 ∧ r' = .star x) ∨ (b = 43 ∧ r' = .cat [x, .star x]) ∨ (b = 63 ∧ r' = .alt [x, .empty])) :
    parseX (40 :: (a ++ 41 :: [b])) = orMany r' := by
  generalize ht : 40 :: (a ++ 41 :: [b]) = t
  have hlen : t.length = a.length + 3 := by rw [← ht]; simp
  have p1 := piece_in (u := []) (f := t.length) ht.symm ha (by omega)
  simp only [List.length_nil, Nat.zero_add] at p1
  have hn : t[t.length]? = none := List.getElem?_eq_none (Nat.le_refl _)
  have h1 : pieceX (waysX t t.length) t 0 = if 500 < r'.size then .err 4 else .ok r' (a.length + 2 + 1) := by
    rw [p1.1]
    exact post_sign (by omega) (p1.2.2.2 0) hb (noPost_none (by rw [show a.length + 2 + 1 = t.length by omega]; exact hn))
  unfold orMany
  by_cases c : 500 < r'.size
  · rw [if_pos c] at h1 ⊢
    exact parse_err (by omega) (way_err (by omega) p1.2.2.1 h1)
  · rw [if_neg c] at h1 ⊢
    rw [parse_one (t := t) (l := [r']) (by omega) (by
      rw [way_go (by omega) p1.2.2.1 h1, show a.length + 2 + 1 = t.length by omega, way_end (by omega) (endW_none hn)]
      rfl)]
    exact if_neg c

/-- (a)(b)* -/
theorem parse_pair_star {a b : List UInt8} {x y : RX} (ha : parseX a = .inr x) (hb : parseX b = .inr y) (hl : a.length + b.length ≤ 100) :
    parseX (40 :: (a ++ 41 :: (40 :: (b ++ [41, 42])))) = orMany (.cat [x, .star y]) := by
  generalize ht : 40 :: (a ++ 41 :: (40 :: (b ++ [41, 42]))) = t
  have hlen : t.length = a.length + b.length + 5 := by rw [← ht]; simp; omega
  have p1 := piece_in (u := []) (f := t.length) ht.symm ha (by omega)
  have p2 := piece_in (t := t) (u := 40 :: (a ++ [41])) (v := [42]) (f := t.length) (by rw [← ht]; simp) hb (by omega)
  rw [show (40 :: (a ++ [41])).length = a.length + 2 by simp] at p2
  simp only [List.length_nil, Nat.zero_add] at p1
  have hn : t[t.length]? = none := List.getElem?_eq_none (Nat.le_refl _)
  have h1 : pieceX (waysX t t.length) t 0 = .ok x (a.length + 2) := by
    rw [p1.1]
    exact post_none (noPost_some (p1.2.2.2 0) (by decide))
  have h2 : pieceX (waysX t t.length) t (a.length + 2) = if 500 < (RX.star y).size then .err 4 else .ok (.star y) t.length := by
    rw [p2.1, show t.length = a.length + 2 + b.length + 2 + 1 by omega]
    exact post_sign (by omega) (p2.2.2.2 0) (.inl ⟨rfl, rfl⟩) (noPost_none (by rw [show a.length + 2 + b.length + 2 + 1 = t.length by omega]; exact hn))
  by_cases c : 500 < (RX.star y).size
  · rw [if_pos c] at h2
    have : 500 < (RX.cat [x, .star y]).size := by simp only [RX.size, sizeL] at c ⊢; omega
    unfold orMany
    rw [if_pos this]
    exact parse_err (by omega) (by rw [way_go (by omega) p1.2.2.1 h1]; exact way_err (by omega) p2.2.2.1 h2)
  · rw [if_neg c] at h2
    exact parse_one (l := [x, .star y]) (by omega) (by
      rw [way_go (by omega) p1.2.2.1 h1, way_go (by omega) p2.2.2.1 h2, way_end (by omega) (endW_none hn)]
      rfl)

/-- No bytes. -/
def none0 : RX := .bytes 0 0 0 0
/-- A pair of brackets with nothing between them. -/
theorem piece_none {t : List UInt8} {i f : Nat} (h0 : t[i]? = some 91) (h1 : t[i + 1]? = some 93) : pieceX (waysX t f) t i = postX t (t.length + 1) (i + 2) none0 ∧ endW t i = false := by
  refine ⟨?_, by rw [endW_some h0]; decide⟩
  have hi : itemsX t (i + 1) = .ok none0 (i + 2) := by
    unfold itemsX
    rw [passed_some h1, if_neg (by decide)]
    unfold itemsL
    rw [passed_some h1, if_pos (by decide)]
    rfl
  have ha : atomX (waysX t f) t i = .ok none0 (i + 2) := by
    unfold atomX
    rw [take_some h0]
    exact hi
  unfold pieceX
  rw [ha]
  show ((sizedX none0 (i + 2)).bind fun r j => postX t (t.length + 1) j r) = _
  rw [sized_ok (by decide)]
  rfl

/-- (a)|[] -/
theorem parse_bar_none {a : List UInt8} {x : RX} (ha : parseX a = .inr x) (hl : a.length ≤ 100) :
    parseX (40 :: (a ++ 41 :: [124, 91, 93])) = orMany (.alt [x, none0]) := by
  generalize ht : 40 :: (a ++ 41 :: [124, 91, 93]) = t
  have hlen : t.length = a.length + 5 := by rw [← ht]; simp
  have p1 := piece_in (u := []) (f := t.length) ht.symm ha (by omega)
  simp only [List.length_nil, Nat.zero_add] at p1
  have hn : t[t.length]? = none := List.getElem?_eq_none (Nat.le_refl _)
  have hbar : t[a.length + 2]? = some 124 := p1.2.2.2 0
  have p2 := piece_none (t := t) (f := t.length) (i := a.length + 3) (p1.2.2.2 1) (p1.2.2.2 2)
  have h1 : pieceX (waysX t t.length) t 0 = .ok x (a.length + 2) := by
    rw [p1.1]
    exact post_none (noPost_some hbar (by decide))
  have h2 : pieceX (waysX t t.length) t (a.length + 2 + 1) = .ok none0 t.length := by
    rw [p2.1, show a.length + 3 + 2 = t.length by omega]
    exact post_none (noPost_none hn)
  exact parse_two (l := [x]) (m := [none0]) (k := a.length + 2) (by omega) (by
    rw [way_go (by omega) p1.2.2.1 h1, way_end (by omega) (by rw [endW_some hbar]; decide)]
    rfl) hbar (by
    rw [way_go (by omega) p2.2 h2, way_end (by omega) (endW_none hn)]
    rfl)

/-- (a)[] -/
theorem parse_pair_none {a : List UInt8} {x : RX} (ha : parseX a = .inr x) (hl : a.length ≤ 100) :
    parseX (40 :: (a ++ 41 :: [91, 93])) = orMany (.cat [x, none0]) := by
  generalize ht : 40 :: (a ++ 41 :: [91, 93]) = t
  have hlen : t.length = a.length + 4 := by rw [← ht]; simp
  have p1 := piece_in (u := []) (f := t.length) ht.symm ha (by omega)
  simp only [List.length_nil, Nat.zero_add] at p1
  have hn : t[t.length]? = none := List.getElem?_eq_none (Nat.le_refl _)
  have p2 := piece_none (t := t) (f := t.length) (i := a.length + 2) (p1.2.2.2 0) (p1.2.2.2 1)
  have h1 : pieceX (waysX t t.length) t 0 = .ok x (a.length + 2) := by
    rw [p1.1]
    exact post_none (noPost_some (p1.2.2.2 0) (by decide))
  have h2 : pieceX (waysX t t.length) t (a.length + 2) = .ok none0 t.length := by
    rw [p2.1, show a.length + 2 + 2 = t.length by omega]
    exact post_none (noPost_none hn)
  exact parse_one (l := [x, none0]) (by omega) (by
    rw [way_go (by omega) p1.2.2.1 h1, way_go (by omega) p2.2 h2, way_end (by omega) (endW_none hn)]
    rfl)

theorem parse_nothing : parseX [] = .inr .empty := by rfl

/-- []*(a)() -/
theorem parse_round {a : List UInt8} {x : RX} (ha : parseX a = .inr x) (hl : a.length ≤ 100) :
    parseX (91 :: 93 :: 42 :: 40 :: (a ++ 41 :: [40, 41])) = orMany (.cat [.star none0, x, .empty]) := by
  generalize ht : 91 :: 93 :: 42 :: 40 :: (a ++ 41 :: [40, 41]) = t
  have hlen : t.length = a.length + 7 := by rw [← ht]; simp
  have p1 := piece_in (u := [91, 93, 42]) (f := t.length) ht.symm ha (by omega)
  have p2 := piece_in (t := t) (u := 91 :: 93 :: 42 :: 40 :: (a ++ [41])) (v := []) (f := t.length) (by rw [← ht]; simp) parse_nothing (by simp; omega)
  rw [show (91 :: 93 :: 42 :: 40 :: (a ++ [41])).length = a.length + 5 by simp] at p2
  rw [show ([91, 93, 42] : List UInt8).length = 3 from rfl] at p1
  have hn : t[t.length]? = none := List.getElem?_eq_none (Nat.le_refl _)
  have a0 : t[0]? = some 91 := by rw [← ht]; rfl
  have a1 : t[0 + 1]? = some 93 := by rw [← ht]; rfl
  have a2 : t[2]? = some 42 := by rw [← ht]; rfl
  have a3 : t[2 + 1]? = some 40 := by rw [← ht]; rfl
  have p0 := piece_none (t := t) (f := t.length) (i := 0) a0 a1
  have h0 : pieceX (waysX t t.length) t 0 = .ok (.star none0) 3 := by
    rw [p0.1, post_sign (r' := .star none0) (by omega) a2 (.inl ⟨rfl, rfl⟩) (noPost_some a3 (by decide)), if_neg (by decide)]
  have h1 : pieceX (waysX t t.length) t 3 = .ok x (a.length + 5) := by
    rw [p1.1, show 3 + a.length + 2 = a.length + 5 by omega]
    refine post_none (noPost_some (b := 40) ?_ (by decide))
    have := p1.2.2.2 0
    rw [show 3 + a.length + 2 + 0 = a.length + 5 by omega] at this
    exact this
  have h2 : pieceX (waysX t t.length) t (a.length + 5) = .ok .empty t.length := by
    rw [p2.1, show a.length + 5 + ([] : List UInt8).length + 2 = t.length by simp; omega]
    exact post_none (noPost_none hn)
  exact parse_one (l := [.star none0, x, .empty]) (by omega) (by
    rw [way_go (by omega) p0.2 h0, way_go (by omega) p1.2.2.1 h1, way_go (by omega) p2.2.2.1 h2, way_end (by omega) (endW_none hn)]
    rfl)
end Go.Proofs.X3
