/- What a text is read as has at least two kids in a row of kids, and words of 64 bits. -/
import Derived.Test.YtndefngkkikkeaaXd
import Derived.Test.YtndefngkkikkeaaXc
set_option linter.unusedVariables false
set_option linter.unusedSimpArgs false
namespace Go.Proofs.X3
mutual
def good : RX → Prop
  | .empty => True
  | .bytes a b c d => a < 2 ^ 64 ∧ b < 2 ^ 64 ∧ c < 2 ^ 64 ∧ d < 2 ^ 64
  | .cat l => 2 ≤ l.length ∧ goodL l
  | .alt l => 2 ≤ l.length ∧ goodL l
  | .star r => good r
def goodL : List RX → Prop
  | [] => True
  | r :: l => good r ∧ goodL l
end
theorem goodL_app {a b : List RX} (ha : goodL a) (hb : goodL b) : goodL (a ++ b) := by
  induction a with
  | nil => exact hb
  | cons x l ih => exact ⟨ha.1, ih ha.2⟩
theorem goodL_one {r : RX} (h : good r) : goodL [r] := ⟨h, trivial⟩
theorem goodL_mem {l : List RX} (h : goodL l) : ∀ r ∈ l, good r := by
  induction l with
  | nil => intro r hr; cases hr
  | cons x l ih =>
    intro r hr
    rcases List.mem_cons.1 hr with rfl | hr
    · exact h.1
    · exact ih h.2 r hr
/-- Bytes, with words of 64 bits. -/
def gb (r : RX) : Prop := ∃ a b c d, r = .bytes a b c d ∧ a < 2 ^ 64 ∧ b < 2 ^ 64 ∧ c < 2 ^ 64 ∧ d < 2 ^ 64
theorem gb.good {r : RX} (h : gb r) : good r := by obtain ⟨a, b, c, d, rfl, h1⟩ := h; exact h1
theorem gb_span (lo hi : Nat) : gb (spanX lo hi) := ⟨_, _, _, _, rfl, bits_lt .., bits_lt .., bits_lt .., bits_lt ..⟩
theorem gb_or {a r : RX} (h1 : gb a) (h2 : gb r) : gb (orX a r) := by
  obtain ⟨a, b, c, d, rfl, h1, h3, h4, h5⟩ := h1
  obtain ⟨a', b', c', d', rfl, h1', h3', h4', h5'⟩ := h2
  exact ⟨_, _, _, _, rfl, Nat.or_lt_two_pow h1 h1', Nat.or_lt_two_pow h3 h3', Nat.or_lt_two_pow h4 h4', Nat.or_lt_two_pow h5 h5'⟩
theorem gb_except {a : RX} (h : gb a) : gb (exceptX a) := by
  obtain ⟨a, b, c, d, rfl, h1, h3, h4, h5⟩ := h
  have hf : full < 2 ^ 64 := by decide
  exact ⟨_, _, _, _, rfl, Nat.xor_lt_two_pow hf h1, Nat.xor_lt_two_pow hf h3, Nat.xor_lt_two_pow hf h4, Nat.xor_lt_two_pow hf h5⟩
theorem gb_zero : gb (.bytes 0 0 0 0) := ⟨0, 0, 0, 0, rfl, by decide, by decide, by decide, by decide⟩
theorem item_gb {s : List UInt8} {i j : Nat} {r : RX} (h : itemX s i = .ok r j) : gb r := by
  obtain ⟨x, k, h1, h2⟩ := bind_ok h
  split at h2
  · obtain ⟨y, m, h3, h4⟩ := bind_ok h2
    split at h4
    · cases h4
    · injection h4 with h5 h6; subst h5; exact gb_span _ _
  · injection h2 with h5 h6; subst h5; exact gb_span _ _
theorem itemsL_gb {s : List UInt8} : ∀ (f i j : Nat) (acc r : RX), gb acc → itemsL s f i acc = .ok r j → gb r
  | 0, _, _, _, _, _, h => by cases h
  | f + 1, i, j, acc, r, ha, h => by
    unfold itemsL at h
    split at h
    · injection h with h1 h2; subst h1; exact ha
    · obtain ⟨x, k, h1, h2⟩ := bind_ok h
      exact itemsL_gb f k j _ r (gb_or ha (item_gb h1)) h2
theorem items_gb {s : List UInt8} {i j : Nat} {r : RX} (h : itemsX s i = .ok r j) : gb r := by
  unfold itemsX at h
  split at h
  · obtain ⟨x, k, h1, h2⟩ := bind_ok h
    injection h2 with h3 h4
    subst h3; exact gb_except (itemsL_gb _ _ _ _ _ gb_zero h1)
  · exact itemsL_gb _ _ _ _ _ gb_zero h
theorem atom_good {s : List UInt8} {W : Nat → PR RX} {i j : Nat} {r : RX} (hW : ∀ k r j, W k = .ok r j → good r) (h : atomX W s i = .ok r j) : good r := by
  obtain ⟨b, k, h2, h3⟩ := bind_ok h
  split at h3
  · obtain ⟨x, m, h4, h5⟩ := bind_ok h3
    obtain ⟨c, m', h6, h7⟩ := bind_ok h5
    split at h7
    · injection h7 with h8 h9; subst h8; exact hW _ _ _ h4
    · cases h7
  · split at h3
    · exact (items_gb h3).good
    · split at h3
      · injection h3 with h4 h5; subst h4; exact (gb_except (gb_span _ _)).good
      · split at h3
        · obtain ⟨x, m, h4, h5⟩ := bind_ok h3
          injection h5 with h6 h7; subst h6; exact (gb_span _ _).good
        · split at h3
          · cases h3
          · injection h3 with h4 h5; subst h4; exact (gb_span _ _).good
theorem post_good {s : List UInt8} : ∀ (f i j : Nat) (r r' : RX), good r → postX s f i r = .ok r' j → good r'
  | 0, _, _, _, _, _, h => by cases h
  | f + 1, i, j, r, r', hr, h => by
    unfold postX at h
    split at h
    · obtain ⟨x, k, h1, h2⟩ := bind_ok h
      obtain ⟨rfl, rfl, h3⟩ := sized_at h1
      exact post_good f _ _ (.star r) _ hr h2
    · split at h
      · obtain ⟨x, k, h1, h2⟩ := bind_ok h
        obtain ⟨rfl, rfl, h3⟩ := sized_at h1
        exact post_good f _ _ (.cat [r, .star r]) _ ⟨Nat.le_refl 2, hr, hr, trivial⟩ h2
      · split at h
        · obtain ⟨x, k, h1, h2⟩ := bind_ok h
          obtain ⟨rfl, rfl, h3⟩ := sized_at h1
          exact post_good f _ _ (.alt [r, .empty]) _ ⟨Nat.le_refl 2, hr, trivial, trivial⟩ h2
        · injection h with h1 h2; subst h1; exact hr
theorem piece_good {s : List UInt8} {W : Nat → PR RX} (hW : ∀ k r j, W k = .ok r j → good r) {i j : Nat} {r : RX} (h : pieceX W s i = .ok r j) : good r := by
  obtain ⟨x, k, h1, h2⟩ := bind_ok h
  obtain ⟨y, m, h3, h4⟩ := bind_ok h2
  obtain ⟨rfl, rfl, h5⟩ := sized_at h3
  exact post_good _ _ _ _ _ (atom_good hW h1) h4
theorem wayL_good {s : List UInt8} {W : Nat → PR RX} (hW : ∀ k r j, W k = .ok r j → good r) : ∀ (f i j : Nat) (l l' : List RX), goodL l → wayL W s f i l = .ok l' j → goodL l'
  | 0, _, _, _, _, _, h => by cases h
  | f + 1, i, j, l, l', hl, h => by
    unfold wayL at h
    split at h
    · injection h with h1 h2; subst h1; exact hl
    · obtain ⟨x, k, h1, h2⟩ := bind_ok h
      exact wayL_good hW f k j _ l' (goodL_app hl (goodL_one (piece_good hW h1))) h2
theorem mkCat_good {l : List RX} (h : goodL l) : good (mkCat l) := by
  match l with
  | [] => exact trivial
  | [r] => exact h.1
  | a :: b :: l => exact ⟨by simp, h⟩
theorem mkAlt_good {l : List RX} (h : goodL l) (h0 : l ≠ []) : good (mkAlt l) := by
  match l with
  | [] => exact absurd rfl h0
  | [r] => exact h.1
  | a :: b :: l => exact ⟨by simp, h⟩
theorem waysL_good {s : List UInt8} {W : Nat → PR RX} (hW : ∀ k r j, W k = .ok r j → good r) : ∀ (f i j : Nat) (l l' : List RX), goodL l → waysL W s f i l = .ok l' j → goodL l' ∧ l' ≠ []
  | 0, _, _, _, _, _, h => by cases h
  | f + 1, i, j, l, l', hl, h => by
    unfold waysL at h
    obtain ⟨x, k, h1, h2⟩ := bind_ok h
    obtain ⟨m, k', h3, h4⟩ := bind_ok h1
    have hx : good x := by
      injection h4 with h5 h6
      subst h5
      exact mkCat_good (wayL_good hW _ _ _ [] _ trivial h3)
    split at h2
    · exact waysL_good hW f (k + 1) j _ l' (goodL_app hl (goodL_one hx)) h2
    · injection h2 with h5 h6
      subst h5
      exact ⟨goodL_app hl (goodL_one hx), by simp⟩
theorem ways_good {s : List UInt8} : ∀ (f k : Nat) (r : RX) (j : Nat), waysX s f k = .ok r j → good r
  | 0, _, _, _, h => by cases h
  | f + 1, k, r, j, h => by
    obtain ⟨l, m, h1, h2⟩ := bind_ok h
    have := waysL_good (ways_good f) _ _ _ [] _ trivial h1
    injection h2 with h3 h4
    subst h3
    exact mkAlt_good this.1 this.2
theorem parse_good {s : List UInt8} {r : RX} (h : parseX s = .inr r) : good r ∧ r.size ≤ 500 := by
  unfold parseX at h
  split at h
  · cases h
  · split at h
    · cases h
    · rename_i r' i h1
      split at h
      · cases h
      · split at h
        · cases h
        · injection h with h2
          subst h2
          exact ⟨ways_good _ _ _ _ h1, by omega⟩
end Go.Proofs.X3
