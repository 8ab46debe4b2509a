/- Plain mathematics of regexes: trees, and how a text is read into one. -/
set_option linter.unusedVariables false
namespace Go.Proofs.X3
inductive RX where
 | empty
 | bytes (a b c d : Nat)
 | cat (l : List RX)
 | alt (l : List RX)
 | star (r : RX)
mutual
def RX.size : RX → Nat
 | .empty => 1
 | .bytes _ _ _ _ => 1
 | .cat l => 1 + sizeL l
 | .alt l => 1 + sizeL l
 | .star r => 1 + r.size
def sizeL : List RX → Nat
 | [] => 0
 | r :: l => r.size + sizeL l
end
inductive PR (α : Type) where
 | err (e : Nat)
 | ok (a : α) (at_ : Nat)
def PR.bind {α β : Type} (x : PR α) (f : α → Nat → PR β) : PR β :=
 match x with
 | .err e => .err e
 | .ok a i => f a i
def bitsOf (lo hi : Nat) (k : Nat) : Nat := (List.range 64).foldl (fun n j => if lo ≤ 64 * k + j ∧ 64 * k + j ≤ hi then n ||| 2 ^ j else n) 0
def spanX (lo hi : Nat) : RX := .bytes (bitsOf lo hi 0) (bitsOf lo hi 1) (bitsOf lo hi 2) (bitsOf lo hi 3)
def full : Nat := 18446744073709551615
def exceptX : RX → RX
 | .bytes a b c d => .bytes (full ^^^ a) (full ^^^ b) (full ^^^ c) (full ^^^ d)
 | r => r
def orX : RX → RX → RX
 | .bytes a b c d, .bytes a' b' c' d' => .bytes (a ||| a') (b ||| b') (c ||| c') (d ||| d')
 | r, _ => r
def take (s : List UInt8) (i : Nat) : PR UInt8 :=
 match s[i]? with
 | none => .err 5
 | some b => .ok b (i + 1)
def passed (s : List UInt8) (i : Nat) (b : Nat) : Bool :=
 match s[i]? with
 | none => false
 | some c => decide (c.toNat = b)
def digitX (s : List UInt8) (i : Nat) : PR Nat :=
 (take s i).bind fun b j =>
  if 48 ≤ b.toNat ∧ b.toNat ≤ 57 then .ok (b.toNat - 48) j
  else if 97 ≤ b.toNat ∧ b.toNat ≤ 102 then .ok (b.toNat - 87) j
  else .err 5
def escX (s : List UInt8) (i : Nat) : PR Nat :=
 (take s i).bind fun b j =>
  if b.toNat = 110 then .ok 10 j
  else if b.toNat = 116 then .ok 9 j
  else if b.toNat = 114 then .ok 13 j
  else if b.toNat = 115 then .ok 32 j
  else if b.toNat = 120 then (digitX s j).bind fun h k => (digitX s k).bind fun l m => .ok (h * 16 + l) m
  else if (97 ≤ b.toNat ∧ b.toNat ≤ 122) ∨ (65 ≤ b.toNat ∧ b.toNat ≤ 90) ∨ (48 ≤ b.toNat ∧ b.toNat ≤ 57) then .err 5
  else .ok b.toNat j
def itemByte (s : List UInt8) (i : Nat) : PR Nat :=
 (take s i).bind fun b j =>
  if b.toNat = 93 ∨ b.toNat = 45 then .err 5
  else if b.toNat = 92 then escX s j
  else .ok b.toNat j
def itemX (s : List UInt8) (i : Nat) : PR RX :=
 (itemByte s i).bind fun lo j =>
  if passed s j 45 then (itemByte s (j + 1)).bind fun hi k => if hi < lo then .err 5 else .ok (spanX lo hi) k
  else .ok (spanX lo lo) j
def itemsL (s : List UInt8) : Nat → Nat → RX → PR RX
 | 0, _, _ => .err 98
 | f + 1, i, acc =>
  if passed s i 93 then .ok acc (i + 1)
  else (itemX s i).bind fun r j => itemsL s f j (orX acc r)
def itemsX (s : List UInt8) (i : Nat) : PR RX :=
 if passed s i 94 then (itemsL s (s.length + 1) (i + 1) (.bytes 0 0 0 0)).bind fun r j => .ok (exceptX r) j
 else itemsL s (s.length + 1) i (.bytes 0 0 0 0)
def sizedX (r : RX) (i : Nat) : PR RX := if 500 < r.size then .err 4 else .ok r i
def atomX (W : Nat → PR RX) (s : List UInt8) (i : Nat) : PR RX :=
 (take s i).bind fun b j =>
  if b.toNat = 40 then (W j).bind fun r k => (take s k).bind fun c m => if c.toNat = 41 then .ok r m else .err 5
  else if b.toNat = 91 then itemsX s j
  else if b.toNat = 46 then .ok (exceptX (spanX 10 10)) j
  else if b.toNat = 92 then (escX s j).bind fun c k => .ok (spanX c c) k
  else if b.toNat = 93 ∨ b.toNat = 42 ∨ b.toNat = 43 ∨ b.toNat = 63 ∨ b.toNat = 124 ∨ b.toNat = 41 then .err 5
  else .ok (spanX b.toNat b.toNat) j
def postX (s : List UInt8) : Nat → Nat → RX → PR RX
 | 0, _, _ => .err 98
 | f + 1, i, r =>
  if passed s i 42 then (sizedX (.star r) (i + 1)).bind fun r j => postX s f j r
  else if passed s i 43 then (sizedX (.cat [r, .star r]) (i + 1)).bind fun r j => postX s f j r
  else if passed s i 63 then (sizedX (.alt [r, .empty]) (i + 1)).bind fun r j => postX s f j r
  else .ok r i
def pieceX (W : Nat → PR RX) (s : List UInt8) (i : Nat) : PR RX :=
 (atomX W s i).bind fun r j => (sizedX r j).bind fun r j => postX s (s.length + 1) j r
def endW (s : List UInt8) (i : Nat) : Bool :=
 match s[i]? with
 | none => true
 | some b => decide (b.toNat = 124 ∨ b.toNat = 41)
def wayL (W : Nat → PR RX) (s : List UInt8) : Nat → Nat → List RX → PR (List RX)
 | 0, _, _ => .err 98
 | f + 1, i, l =>
  if endW s i then .ok l i
  else (pieceX W s i).bind fun r j => wayL W s f j (l ++ [r])
def mkCat : List RX → RX
 | [] => .empty
 | [r] => r
 | l => .cat l
def mkAlt : List RX → RX
 | [r] => r
 | l => .alt l
def wayX (W : Nat → PR RX) (s : List UInt8) (i : Nat) : PR RX := (wayL W s (s.length + 1) i []).bind fun l j => .ok (mkCat l) j
def waysL (W : Nat → PR RX) (s : List UInt8) : Nat → Nat → List RX → PR (List RX)
 | 0, _, _ => .err 98
 | f + 1, i, l =>
  (wayX W s i).bind fun r j =>
   if passed s j 124 then waysL W s f (j + 1) (l ++ [r]) else .ok (l ++ [r]) j
def waysX (s : List UInt8) : Nat → Nat → PR RX
 | 0, _ => .err 99
 | f + 1, i => (waysL (waysX s f) s (s.length + 1) i []).bind fun l j => .ok (mkAlt l) j
def parseX (s : List UInt8) : Nat ⊕ RX :=
 if 200 < s.length then .inl 4
 else match waysX s (s.length + 1) 0 with
  | .err e => .inl e
  | .ok r i => if i < s.length then .inl 5 else if 500 < r.size then .inl 4 else .inr r
mutual
inductive Mt : RX → List UInt8 → Prop
 | empty : Mt .empty []
 | byte (a b c d : Nat) (x : UInt8) (h : ((if x.toNat < 64 then a else if x.toNat < 128 then b else if x.toNat < 192 then c else d) >>> (x.toNat % 64)) % 2 = 1) : Mt (.bytes a b c d) [x]
 | cat (l : List RX) (s : List UInt8) (h : MtL l s) : Mt (.cat l) s
 | alt (l : List RX) (r : RX) (s : List UInt8) (hr : r ∈ l) (h : Mt r s) : Mt (.alt l) s
 | star0 (r : RX) : Mt (.star r) []
 | star1 (r : RX) (s t : List UInt8) (h : Mt r s) (h2 : Mt (.star r) t) : Mt (.star r) (s ++ t)
inductive MtL : List RX → List UInt8 → Prop
 | nil : MtL [] []
 | cons (r : RX) (l : List RX) (s t : List UInt8) (h : Mt r s) (h2 : MtL l t) : MtL (r :: l) (s ++ t)
end
theorem take_at {s : List UInt8} {i j : Nat} {b : UInt8} (h : take s i = .ok b j) : j = i + 1 ∧ i < s.length := by
 unfold take at h
 split at h
 ·cases h
 ·rename_i c hc
  injection h with h1 h2
  have := (List.getElem?_eq_some_iff.1 hc).1
  omega
theorem bind_ok {α β : Type} {x : PR α} {f : α → Nat → PR β} {b : β} {j : Nat} (h : x.bind f = .ok b j) : ∃ a i, x = .ok a i ∧ f a i = .ok b j := by
 cases x with
 | err e => cases h
 | ok a i => exact ⟨a, i, rfl, h⟩
theorem passed_lt {s : List UInt8} {i b : Nat} (h : passed s i b = true) : i < s.length := by
 unfold passed at h
 split at h
 ·cases h
 ·rename_i c hc
  exact (List.getElem?_eq_some_iff.1 hc).1
theorem err_ne {α : Type} {e : Nat} {a : α} {i : Nat} (h : PR.err e = PR.ok a i) : False := by cases h
theorem digit_at {s : List UInt8} {i j n : Nat} (h : digitX s i = .ok n j) : i < j ∧ j ≤ s.length ∧ n < 16 := by
 obtain ⟨b, k, h1, h2⟩ := bind_ok h
 have := take_at h1
 split at h2
 ·injection h2 with h3 h4; omega
 ·split at h2
  ·injection h2 with h3 h4; omega
  ·cases h2
theorem esc_at {s : List UInt8} {i j n : Nat} (h : escX s i = .ok n j) : i < j ∧ j ≤ s.length ∧ n < 256 := by
 obtain ⟨b, k, h1, h2⟩ := bind_ok h
 have := take_at h1
 have hb := b.toNat_lt
 repeat' split at h2
 all_goals first
   | (exact (err_ne h2).elim)
   | (injection h2 with h3 h4; omega)
   | (obtain ⟨x, k1, h3, h4⟩ := bind_ok h2
      obtain ⟨y, k2, h5, h6⟩ := bind_ok h4
      have := digit_at h3
      have := digit_at h5
      injection h6 with h7 h8
      omega)
theorem itemByte_at {s : List UInt8} {i j n : Nat} (h : itemByte s i = .ok n j) : i < j ∧ j ≤ s.length ∧ n < 256 := by
 obtain ⟨b, k, h1, h2⟩ := bind_ok h
 have := take_at h1
 have hb := b.toNat_lt
 split at h2
 ·cases h2
 ·split at h2
  ·have := esc_at h2; omega
  ·injection h2 with h3 h4; omega
theorem item_at {s : List UInt8} {i j : Nat} {r : RX} (h : itemX s i = .ok r j) : i < j ∧ j ≤ s.length := by
 obtain ⟨b, k, h1, h2⟩ := bind_ok h
 have := itemByte_at h1
 split at h2
 ·obtain ⟨c, m, h3, h4⟩ := bind_ok h2
  have := itemByte_at h3
  split at h4
  ·cases h4
  ·injection h4 with h5 h6; omega
 ·injection h2 with h5 h6; omega
theorem itemsL_at {s : List UInt8} : ∀ (f i j : Nat) (acc r : RX), itemsL s f i acc = .ok r j → i < j ∧ j ≤ s.length
 | 0, _, _, _, _, h => by cases h
 | f + 1, i, j, acc, r, h => by
  unfold itemsL at h
  split at h
  ·rename_i hp
   have := passed_lt hp
   injection h with h1 h2; omega
  ·obtain ⟨c, m, h3, h4⟩ := bind_ok h
   have := item_at h3
   have := itemsL_at f m j _ r h4
   omega
theorem items_at {s : List UInt8} {i j : Nat} {r : RX} (h : itemsX s i = .ok r j) : i < j ∧ j ≤ s.length := by
 unfold itemsX at h
 split at h
 ·obtain ⟨c, m, h3, h4⟩ := bind_ok h
  have := itemsL_at _ _ _ _ _ h3
  injection h4 with h5 h6; omega
 ·exact itemsL_at _ _ _ _ _ h
theorem sized_at {r r' : RX} {i j : Nat} (h : sizedX r i = .ok r' j) : r' = r ∧ j = i ∧ r.size ≤ 500 := by
 unfold sizedX at h
 split at h
 ·cases h
 ·injection h with h1 h2; exact ⟨h1.symm, h2.symm, by omega⟩
def Goes (s : List UInt8) (W : Nat → PR RX) : Prop := ∀ i j r, i ≤ s.length → W i = .ok r j → i ≤ j ∧ j ≤ s.length
theorem atom_at {s : List UInt8} {W : Nat → PR RX} (hW : Goes s W) {i j : Nat} {r : RX} (h : atomX W s i = .ok r j) : i < j ∧ j ≤ s.length := by
 obtain ⟨b, k, h1, h2⟩ := bind_ok h
 have := take_at h1
 repeat' split at h2
 all_goals first
   | (obtain ⟨x, k1, h3, h4⟩ := bind_ok h2
      obtain ⟨y, k2, h5, h6⟩ := bind_ok h4
      have := hW _ _ _ (by omega) h3
      have := take_at h5
      split at h6
      · injection h6 with h7 h8; omega
      · cases h6)
   | (have := items_at h2; omega)
   | (obtain ⟨x, k1, h3, h4⟩ := bind_ok h2
      have := esc_at h3
      injection h4 with h7 h8
      omega)
   | (exact (err_ne h2).elim)
   | (injection h2 with h3 h4; omega)
theorem post_at {s : List UInt8} : ∀ (f i j : Nat) (r r' : RX), i ≤ s.length → postX s f i r = .ok r' j → i ≤ j ∧ j ≤ s.length
 | 0, _, _, _, _, _, h => by cases h
 | f + 1, i, j, r, r', hi, h => by
  unfold postX at h
  repeat' split at h
  all_goals first
    | (rename_i hp
       obtain ⟨x, k1, h3, h4⟩ := bind_ok h
       have := passed_lt hp
       have := sized_at h3
       have := post_at f k1 j x r' (by omega) h4
       omega)
    | (injection h with h1 h2; omega)
theorem piece_at {s : List UInt8} {W : Nat → PR RX} (hW : Goes s W) {i j : Nat} {r : RX} (h : pieceX W s i = .ok r j) : i < j ∧ j ≤ s.length := by
 obtain ⟨x, k, h1, h2⟩ := bind_ok h
 obtain ⟨y, k2, h3, h4⟩ := bind_ok h2
 have := atom_at hW h1
 have := sized_at h3
 have := post_at _ _ _ _ _ (by omega) h4
 omega
theorem wayL_at {s : List UInt8} {W : Nat → PR RX} (hW : Goes s W) : ∀ (f i j : Nat) (l l' : List RX), i ≤ s.length → wayL W s f i l = .ok l' j → i ≤ j ∧ j ≤ s.length
 | 0, _, _, _, _, _, h => by cases h
 | f + 1, i, j, l, l', hi, h => by
  unfold wayL at h
  split at h
  ·injection h with h1 h2; omega
  ·obtain ⟨x, k, h1, h2⟩ := bind_ok h
   have := piece_at hW h1
   have := wayL_at hW f k j _ l' (by omega) h2
   omega
theorem way_at {s : List UInt8} {W : Nat → PR RX} (hW : Goes s W) {i j : Nat} {r : RX} (hi : i ≤ s.length) (h : wayX W s i = .ok r j) : i ≤ j ∧ j ≤ s.length := by
 obtain ⟨x, k, h1, h2⟩ := bind_ok h
 have := wayL_at hW _ _ _ _ _ hi h1
 injection h2 with h3 h4; omega
theorem waysL_at {s : List UInt8} {W : Nat → PR RX} (hW : Goes s W) : ∀ (f i j : Nat) (l l' : List RX), i ≤ s.length → waysL W s f i l = .ok l' j → i ≤ j ∧ j ≤ s.length
 | 0, _, _, _, _, _, h => by cases h
 | f + 1, i, j, l, l', hi, h => by
  unfold waysL at h
  obtain ⟨x, k, h1, h2⟩ := bind_ok h
  have := way_at hW hi h1
  split at h2
  ·rename_i hp
   have := passed_lt hp
   have := waysL_at hW f (k + 1) j _ l' (by omega) h2
   omega
  ·injection h2 with h3 h4; omega
theorem ways_goes (s : List UInt8) : ∀ f, Goes s (waysX s f)
 | 0 => by intro i j r _ h; cases h
 | f + 1 => by
  intro i j r hi h
  obtain ⟨x, k, h1, h2⟩ := bind_ok h
  have := waysL_at (ways_goes s f) _ _ _ _ _ hi h1
  injection h2 with h3 h4; omega
structure Emb (a t : List UInt8) (p : Nat) : Prop where
 at_ : ∀ i, i < a.length → t[p + i]? = a[i]?
 behind : t[p + a.length]? = some 41
theorem Emb.lt {a t : List UInt8} {p : Nat} (h : Emb a t p) : p + a.length < t.length := (List.getElem?_eq_some_iff.1 h.behind).1
end Go.Proofs.X3
