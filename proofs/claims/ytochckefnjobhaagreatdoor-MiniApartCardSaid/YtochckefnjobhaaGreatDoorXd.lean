/- Plain mathematics: the words of a span, bit by bit. -/
import Derived.Test.YtochckefnjobhaaGreatDoorXa
namespace Go.Proofs.X3
set_option linter.unusedVariables false
theorem bits_fold (lo hi k : Nat) : ∀ n j, ((List.range n).foldl (fun n j => if lo ≤ 64 * k + j ∧ 64 * k + j ≤ hi then n ||| 2 ^ j else n) 0).testBit j = decide (j < n ∧ lo ≤ 64 * k + j ∧ 64 * k + j ≤ hi) := by
 intro n
 induction n with
 | zero => intro j; simp
 | succ n ih =>
  intro j
  rw [List.range_succ, List.foldl_append]
  simp only [List.foldl_cons, List.foldl_nil]
  split
  ·rename_i c
   rw [Nat.testBit_or, ih, Nat.testBit_two_pow]
   by_cases e : n = j
   ·subst e; simp [c]
   ·rw [Bool.eq_iff_iff]; simp [e]; omega
  ·rename_i c
   rw [ih]
   rw [Bool.eq_iff_iff]; simp
   intro h1 h2
   constructor
   ·intro h; omega
   ·intro h
    rcases Nat.lt_or_ge j n with h3 | h3
    ·exact h3
    ·exfalso; apply c
     have : j = n := by omega
     subst this; exact ⟨h1, h2⟩
theorem bits_test (lo hi k j : Nat) : (bitsOf lo hi k).testBit j = decide (j < 64 ∧ lo ≤ 64 * k + j ∧ 64 * k + j ≤ hi) := bits_fold lo hi k 64 j
theorem bits_none {lo hi : Nat} (h : hi < lo) (k : Nat) : bitsOf lo hi k = 0 := by
 apply Nat.eq_of_testBit_eq
 intro j
 rw [bits_test]; simp; omega
theorem bits_lt (lo hi k : Nat) : bitsOf lo hi k < 2 ^ 64 := by
 apply Nat.lt_pow_two_of_testBit
 intro j hj
 rw [bits_test]; simp; omega
theorem bits_step {lo m : Nat} (h : lo ≤ m) (k : Nat) : bitsOf lo m k = if m / 64 = k then (if m = 0 then 0 else bitsOf lo (m - 1) k) ||| 2 ^ (m % 64) else (if m = 0 then 0 else bitsOf lo (m - 1) k) := by
 apply Nat.eq_of_testBit_eq
 intro j
 rw [bits_test]
 by_cases h0 : m = 0
 ·subst h0
  by_cases hk : 0 / 64 = k
  ·simp only [hk, if_true, Nat.testBit_or, Nat.testBit_two_pow]
   rw [Bool.eq_iff_iff]; simp; omega
  ·simp only [hk, if_false, if_true]
   rw [Bool.eq_iff_iff]; simp; omega
 ·rw [if_neg h0]
  split
  ·rename_i c
   rw [Nat.testBit_or, bits_test, Nat.testBit_two_pow, Bool.eq_iff_iff]; simp; omega
  ·rename_i c
   rw [bits_test, Bool.eq_iff_iff]; simp; omega
end Go.Proofs.X3
namespace Go.Proofs.X3
set_option linter.unusedVariables false
theorem sizeL_app (a b : List RX) : sizeL (a ++ b) = sizeL a + sizeL b := by
 induction a with
 | nil => simp [sizeL]
 | cons x l ih => simp only [List.cons_append, sizeL, ih]; omega
theorem or_size (a r : RX) : (orX a r).size = a.size := by
 cases a <;> cases r <;> simp [orX, RX.size]
theorem except_size (a : RX) : (exceptX a).size = a.size := by
 cases a <;> simp [exceptX, RX.size]
theorem itemsL_size {s : List UInt8} : ∀ (f i j : Nat) (acc r : RX), itemsL s f i acc = .ok r j → r.size = acc.size
 | 0, _, _, _, _, h => by cases h
 | f + 1, i, j, acc, r, h => by
  unfold itemsL at h
  split at h
  ·injection h with h1 h2; rw [h1]
  ·obtain ⟨x, k, h1, h2⟩ := bind_ok h
   have := itemsL_size f k j _ r h2
   rw [this, or_size]
theorem items_size {s : List UInt8} {i j : Nat} {r : RX} (h : itemsX s i = .ok r j) : r.size = 1 := by
 unfold itemsX at h
 split at h
 ·obtain ⟨x, k, h1, h2⟩ := bind_ok h
  have := itemsL_size _ _ _ _ _ h1
  injection h2 with h3 h4
  rw [← h3, except_size, this]; rfl
 ·exact itemsL_size _ _ _ _ _ h
theorem atom_size {s : List UInt8} {W : Nat → PR RX} {N : Nat} (h1 : 1 ≤ N) {i j : Nat} {r : RX} (hW : ∀ k r j, W k = .ok r j → k ≤ s.length → r.size ≤ N) (h : atomX W s i = .ok r j) : r.size ≤ N := by
 obtain ⟨b, k, h2, h3⟩ := bind_ok h
 have hk := take_at h2
 split at h3
 ·obtain ⟨x, m, h4, h5⟩ := bind_ok h3
  obtain ⟨c, m', h6, h7⟩ := bind_ok h5
  split at h7
  ·injection h7 with h8 h9; subst h8; exact hW _ _ _ h4 (by omega)
  ·cases h7
 ·split at h3
  ·rw [items_size h3]; exact h1
  ·split at h3
   ·injection h3 with h4 h5; subst h4; rw [except_size]; exact h1
   ·split at h3
    ·obtain ⟨x, m, h4, h5⟩ := bind_ok h3
     injection h5 with h6 h7; subst h6; exact h1
    ·split at h3
     ·cases h3
     ·injection h3 with h4 h5; subst h4; exact h1
theorem post_size {s : List UInt8} : ∀ (f i j : Nat) (r r' : RX), r.size ≤ 500 → postX s f i r = .ok r' j → r'.size ≤ 500
 | 0, _, _, _, _, _, h => by cases h
 | f + 1, i, j, r, r', hr, h => by
  unfold postX at h
  split at h
  ·obtain ⟨x, k, h1, h2⟩ := bind_ok h
   obtain ⟨rfl, rfl, h3⟩ := sized_at h1
   exact post_size f _ _ _ _ h3 h2
  ·split at h
   ·obtain ⟨x, k, h1, h2⟩ := bind_ok h
    obtain ⟨rfl, rfl, h3⟩ := sized_at h1
    exact post_size f _ _ _ _ h3 h2
   ·split at h
    ·obtain ⟨x, k, h1, h2⟩ := bind_ok h
     obtain ⟨rfl, rfl, h3⟩ := sized_at h1
     exact post_size f _ _ _ _ h3 h2
    ·injection h with h1 h2; subst h1; exact hr
theorem piece_size {s : List UInt8} {W : Nat → PR RX} {i j : Nat} {r : RX} (h : pieceX W s i = .ok r j) : r.size ≤ 500 := by
 obtain ⟨x, k, h1, h2⟩ := bind_ok h
 obtain ⟨y, m, h3, h4⟩ := bind_ok h2
 obtain ⟨rfl, rfl, h5⟩ := sized_at h3
 exact post_size _ _ _ _ _ h5 h4
theorem wayL_size {s : List UInt8} {W : Nat → PR RX} (hW : Goes s W) : ∀ (f i j : Nat) (l l' : List RX), i ≤ s.length → wayL W s f i l = .ok l' j → sizeL l' ≤ sizeL l + 500 * (j - i)
 | 0, _, _, _, _, _, h => by cases h
 | f + 1, i, j, l, l', hi, h => by
  unfold wayL at h
  split at h
  ·injection h with h1 h2; subst h1; omega
  ·obtain ⟨x, k, h1, h2⟩ := bind_ok h
   have h3 := piece_at hW h1
   have h4 := wayL_size hW f k j _ l' h3.2 h2
   have h5 := piece_size h1
   have h6 := wayL_at hW _ _ _ _ _ h3.2 h2
   rw [sizeL_app] at h4
   simp only [sizeL] at h4
   omega
theorem mkCat_size (l : List RX) : (mkCat l).size ≤ 1 + sizeL l := by
 match l with
 | [] => simp [mkCat, RX.size]
 | [r] => simp only [mkCat, sizeL]; omega
 | a :: b :: l => simp only [mkCat, RX.size]; omega
theorem mkAlt_size (l : List RX) : (mkAlt l).size ≤ 1 + sizeL l := by
 match l with
 | [] => simp [mkAlt, RX.size]
 | [r] => simp only [mkAlt, sizeL]; omega
 | a :: b :: l => simp only [mkAlt, RX.size]; omega
theorem way_size {s : List UInt8} {W : Nat → PR RX} (hW : Goes s W) {i j : Nat} {r : RX} (hi : i ≤ s.length) (h : wayX W s i = .ok r j) : r.size ≤ 1 + 500 * (j - i) := by
 obtain ⟨l, k, h1, h2⟩ := bind_ok h
 have := wayL_size hW _ _ _ _ _ hi h1
 injection h2 with h3 h4
 subst h3 h4
 have := mkCat_size l
 simp only [sizeL] at *
 omega
theorem waysL_size {s : List UInt8} {W : Nat → PR RX} (hW : Goes s W) : ∀ (f i j : Nat) (l l' : List RX), i ≤ s.length → waysL W s f i l = .ok l' j → sizeL l' ≤ sizeL l + 501 * (j - i) + 1
 | 0, _, _, _, _, _, h => by cases h
 | f + 1, i, j, l, l', hi, h => by
  unfold waysL at h
  obtain ⟨x, k, h1, h2⟩ := bind_ok h
  have h3 := way_size hW hi h1
  have h4 := way_at hW hi h1
  split at h2
  ·rename_i hp
   have hp' := passed_lt hp
   have h5 := waysL_size hW f (k + 1) j _ l' (by omega) h2
   have h6 := waysL_at hW _ _ _ _ _ (by omega) h2
   rw [sizeL_app] at h5
   simp only [sizeL] at h5
   omega
  ·injection h2 with h5 h6
   subst h5 h6
   rw [sizeL_app]
   simp only [sizeL]
   omega
theorem ways_size {s : List UInt8} {f i j : Nat} {r : RX} (hi : i ≤ s.length) (h : waysX s f i = .ok r j) : r.size ≤ 2 + 501 * (j - i) := by
 cases f with
 | zero => cases h
 | succ f =>
  obtain ⟨l, k, h1, h2⟩ := bind_ok h
  have := waysL_size (ways_goes s f) _ _ _ _ _ hi h1
  injection h2 with h3 h4
  subst h3 h4
  have := mkAlt_size l
  simp only [sizeL] at *
  omega
end Go.Proofs.X3
