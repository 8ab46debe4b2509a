/- What is shown is read again as the same tree. -/
import Derived.Test.YtndefngkkikkeaaXk
set_option linter.unusedVariables false
set_option linter.unusedSimpArgs false
namespace Go.Proofs.X3
theorem show_first : ∀ (n : Nat) (r : RX), r.size ≤ n → ∃ x s, showX r = x :: s ∧ (x = 40 ∨ x = 91)
  | 0, r, h => by cases r <;> simp [RX.size] at h
  | n + 1, .empty, _ => ⟨40, _, showX_empty, .inl rfl⟩
  | n + 1, .bytes a b c d, _ => ⟨91, _, by rw [showX_bytes]; rfl, .inr rfl⟩
  | n + 1, .cat l, _ => ⟨40, _, showX_cat l, .inl rfl⟩
  | n + 1, .alt l, _ => ⟨40, _, showX_alt l, .inl rfl⟩
  | n + 1, .star r, h => by
    obtain ⟨x, s, e, hx⟩ := show_first n r (by simp only [RX.size] at h; omega)
    exact ⟨x, s ++ [42], by rw [showX_star, e]; rfl, hx⟩
theorem show_ne (r : RX) : showX r ≠ [] := by
  obtain ⟨x, s, e, _⟩ := show_first _ r (Nat.le_refl _)
  rw [e]; simp
/-- What begins to be shown is neither an end nor a sign. -/
theorem show_at {t : List UInt8} {p : Nat} {r : RX} {s : List UInt8} (h : At t p (showX r ++ s)) : endW t p = false ∧ noPost t p := by
  obtain ⟨x, u, e, hx⟩ := show_first _ r (Nat.le_refl _)
  rw [e] at h
  have h0 := (At.cons (s := u ++ s) h).1
  refine ⟨?_, noPost_some h0 ?_⟩
  · rw [endW_some h0]; rcases hx with rfl | rfl <;> decide
  · rcases hx with rfl | rfl <;> decide

/-- A regex that is shown at a place is read there. -/
def Reads (t : List UInt8) (f : Nat) (r : RX) : Prop :=
  ∀ p, At t p (showX r) → t.length ≤ f + p → ∃ F, t.length + 1 ≤ F + (showX r).length ∧ pieceX (waysX t f) t p = postX t F (p + (showX r).length) r
theorem Reads.piece {t : List UInt8} {f p : Nat} {r : RX} (h : Reads t f r) (ha : At t p (showX r)) (hf : t.length ≤ f + p) (hn : noPost t (p + (showX r).length)) : pieceX (waysX t f) t p = .ok r (p + (showX r).length) := by
  obtain ⟨F, h1, h2⟩ := h p ha hf
  have := ha.le (show_ne r)
  rw [h2]
  exact post_no (by omega) hn

theorem seq_cons (sep : List UInt8) (r : RX) (l : List RX) (k : Nat) : seqX sep (k + 1) (r :: l) = sep ++ showX r ++ seqX sep (k + 2) l := by rw [seqX, if_neg (by omega)]
theorem seq_zero (sep : List UInt8) (r : RX) (l : List RX) : seqX sep 0 (r :: l) = showX r ++ seqX sep 1 l := by rw [seqX, if_pos rfl]; rfl
theorem seq_any (sep : List UInt8) : ∀ (l : List RX) (j k : Nat), seqX sep (j + 1) l = seqX sep (k + 1) l
  | [], _, _ => by rw [seqX, seqX]
  | r :: l, j, k => by rw [seq_cons, seq_cons, seq_any sep l (j + 1) (k + 1)]
theorem cat_any (l : List RX) (k : Nat) : seqX [] k l = seqX [] 0 l := by
  cases k with
  | zero => rfl
  | succ k =>
    cases l with
    | nil => rw [seqX, seqX]
    | cons r l => rw [seq_cons, seq_zero, seq_any [] l (k + 1) 0]; rfl

/-- Pieces one behind the other, up to a bracket. -/
theorem way_reads {t : List UInt8} {f : Nat} : ∀ (l : List RX), (∀ r ∈ l, Reads t f r) → ∀ (F p : Nat) (acc : List RX), At t p (seqX [] 0 l ++ [41]) → t.length ≤ f + p → l.length < F →
    wayL (waysX t f) t F p acc = .ok (acc ++ l) (p + (seqX [] 0 l).length)
  | [], _, F, p, acc, h, hf, hF => by
    rw [seqX] at h ⊢
    have h0 := (At.cons h).1
    rw [way_end (by simpa using hF) (by rw [endW_some h0]; decide), List.append_nil]
    rfl
  | r :: l, hr, F, p, acc, h, hf, hF => by
    rw [seq_zero, cat_any l 1] at h ⊢
    rw [List.append_assoc] at h
    have h1 := h.app
    have hn : noPost t (p + (showX r).length) := by
      cases l with
      | nil => rw [seqX] at h1; exact noPost_some (At.cons h1.2).1 (by decide)
      | cons x l => rw [seq_zero, List.append_assoc] at h1; exact (show_at h1.2).2
    have hp := (hr r (List.mem_cons_self ..)).piece h1.1 hf hn
    rw [way_go (by omega) (show_at h).1 hp, way_reads l (fun x hx => hr x (List.mem_cons_of_mem _ hx)) _ _ _ h1.2 (by omega) (by simp at hF; omega)]
    rw [List.append_assoc, List.length_append, Nat.add_assoc]
    rfl
/-- One piece is a way, up to a bar or a bracket. -/
theorem way_one {t : List UInt8} {f p : Nat} {r : RX} {b : UInt8} (hr : Reads t f r) (h : At t p (showX r ++ [b])) (hb : b = 124 ∨ b = 41) (hf : t.length ≤ f + p) : wayX (waysX t f) t p = .ok r (p + (showX r).length) := by
  have h1 := h.app
  have h0 := (At.cons h1.2).1
  have hp := hr.piece h1.1 hf (noPost_some h0 (by rcases hb with rfl | rfl <;> decide))
  have ht := (List.getElem?_eq_some_iff.1 h0).1
  unfold wayX
  rw [way_go (by omega) (show_at h).1 hp, way_end (by omega) (by rw [endW_some h0]; rcases hb with rfl | rfl <;> decide)]
  rfl
theorem ways_end {W : Nat → PR RX} {t : List UInt8} {F p q : Nat} {acc : List RX} {r : RX} (hF : 0 < F) (h : wayX W t p = .ok r q) (h0 : passed t q 124 = false) : waysL W t F p acc = .ok (acc ++ [r]) q := by
  obtain ⟨g, rfl⟩ : ∃ g, F = g + 1 := ⟨F - 1, by omega⟩
  unfold waysL
  rw [h]
  show (if passed t q 124 = true then _ else PR.ok (acc ++ [r]) q) = _
  rw [h0]; rfl
theorem ways_go {W : Nat → PR RX} {t : List UInt8} {F p q : Nat} {acc : List RX} {r : RX} (hF : 0 < F) (h : wayX W t p = .ok r q) (h0 : passed t q 124 = true) : waysL W t F p acc = waysL W t (F - 1) (q + 1) (acc ++ [r]) := by
  obtain ⟨g, rfl⟩ : ∃ g, F = g + 1 := ⟨F - 1, by omega⟩
  conv => lhs; unfold waysL
  rw [h]
  show (if passed t q 124 = true then waysL W t g (q + 1) (acc ++ [r]) else _) = _
  rw [h0]; rfl
/-- Ways with bars between, up to a bracket. -/
theorem ways_reads {t : List UInt8} {f : Nat} : ∀ (l : List RX) (r : RX), (∀ x ∈ r :: l, Reads t f x) → ∀ (F p : Nat) (acc : List RX), At t p (showX r ++ seqX [124] 1 l ++ [41]) → t.length ≤ f + p → l.length < F →
    waysL (waysX t f) t F p acc = .ok (acc ++ r :: l) (p + (showX r ++ seqX [124] 1 l).length)
  | [], r, hr, F, p, acc, h, hf, hF => by
    rw [seqX, List.append_nil] at h ⊢
    have h0 := (At.cons h.app.2).1
    exact ways_end (by omega) (way_one (hr r (List.mem_cons_self ..)) h (.inr rfl) hf) (by rw [passed_some h0]; decide)
  | x :: l, r, hr, F, p, acc, h, hf, hF => by
    rw [seq_cons, seq_any [124] l 1 0, show (0 : Nat) + 1 = 1 from rfl] at h ⊢
    have h' : At t p ((showX r ++ [124]) ++ (showX x ++ seqX [124] 1 l ++ [41])) := by
      have e : (showX r ++ [124]) ++ (showX x ++ seqX [124] 1 l ++ [41]) = showX r ++ ([124] ++ showX x ++ seqX [124] 1 l) ++ [41] := by simp
      rw [e]; exact h
    have h1 := h'.app
    have h0 := (At.cons h1.1.app.2).1
    rw [ways_go (by omega) (way_one (hr r (List.mem_cons_self ..)) h1.1 (.inl rfl) hf) (by rw [passed_some h0]; decide)]
    have h2 := h1.2
    rw [List.length_append, List.length_singleton, ← Nat.add_assoc] at h2
    rw [ways_reads l x (fun y hy => hr y (List.mem_cons_of_mem _ hy)) _ _ _ h2 (by omega) (by simp at hF; omega)]
    rw [List.append_assoc]
    congr 1
    simp only [List.length_append, List.length_singleton]
    omega

theorem size_mem {r : RX} {l : List RX} (h : r ∈ l) : r.size ≤ sizeL l := by
  induction l with
  | nil => cases h
  | cons x l ih =>
    simp only [sizeL]
    rcases List.mem_cons.1 h with rfl | h
    · omega
    · have := ih h; omega
theorem len_size (l : List RX) : l.length ≤ sizeL l := by
  induction l with
  | nil => simp
  | cons x l ih =>
    have : 1 ≤ x.size := by cases x <;> simp [RX.size]
    simp only [sizeL, List.length_cons]; omega
theorem seq_len_le (sep : List UInt8) : ∀ (l : List RX) (k : Nat), l.length ≤ (seqX sep k l).length
  | [], _ => by simp
  | r :: l, k => by
    have h1 := seq_len_le sep l (k + 1)
    have h2 := List.length_pos_iff.2 (show_ne r)
    rw [seqX]
    simp only [List.length_append, List.length_cons]
    omega
/-- Ways in round brackets are an atom. -/
theorem atom_ways {t : List UInt8} {f p : Nat} {u : List UInt8} {l : List RX} {r : RX} (h : At t p (40 :: (u ++ [41]))) (h1 : waysL (waysX t f) t (t.length + 1) (p + 1) [] = .ok l (p + 1 + u.length)) (hl : mkAlt l = r) :
    atomX (waysX t (f + 1)) t p = .ok r (p + (40 :: (u ++ [41])).length) := by
  have h0 := (At.cons h).1
  have h2 := (At.cons (At.app (At.cons h).2).2).1
  have hw : waysX t (f + 1) (p + 1) = .ok r (p + 1 + u.length) := by
    conv => lhs; unfold waysX
    rw [h1, ← hl]; rfl
  unfold atomX
  rw [take_some h0]
  show ((waysX t (f + 1) (p + 1)).bind fun r k => (take t k).bind fun c m => if c.toNat = 41 then .ok r m else .err 5) = _
  rw [hw]
  show ((take t (p + 1 + u.length)).bind fun c m => if c.toNat = 41 then PR.ok r m else .err 5) = _
  rw [take_some h2]
  show PR.ok r (p + 1 + u.length + 1) = _
  congr 1
  simp only [List.length_cons, List.length_append, List.length_nil]
  omega
theorem piece_of_atom {W : Nat → PR RX} {t : List UInt8} {p q : Nat} {r : RX} (h : atomX W t p = .ok r q) (hs : r.size ≤ 500) : pieceX W t p = postX t (t.length + 1) q r := by
  unfold pieceX
  rw [h]
  show ((sizedX r q).bind fun r j => postX t (t.length + 1) j r) = _
  rw [sized_ok hs]
  rfl

theorem mkCat_two {l : List RX} (h : 2 ≤ l.length) : mkCat l = .cat l := by
  match l with
  | [] => simp at h
  | [r] => simp at h
  | a :: b :: l => rfl
theorem mkAlt_two {l : List RX} (h : 2 ≤ l.length) : mkAlt l = .alt l := by
  match l with
  | [] => simp at h
  | [r] => simp at h
  | a :: b :: l => rfl

theorem reads_any (t : List UInt8) : ∀ (n : Nat) (r : RX), r.size ≤ n → good r → r.size ≤ 500 → ∀ f, Reads t f r := by
  intro n
  induction n with
  | zero => intro r h; cases r <;> simp [RX.size] at h
  | succ n ih =>
    intro r hn hg hs f p h hf
    have hle := h.le (show_ne r)
    cases r with
    | empty =>
      rw [showX_empty] at h hle ⊢
      simp only [List.length_cons, List.length_nil] at hle
      obtain ⟨g, rfl⟩ : ∃ g, f = g + 1 := ⟨f - 1, by omega⟩
      have h1 := (At.cons (At.cons h).2).1
      have hw : wayX (waysX t g) t (p + 1) = .ok .empty (p + 1) := by
        unfold wayX
        rw [way_end (by omega) (by rw [endW_some h1]; decide)]
        rfl
      have ha := atom_ways (f := g) (u := []) (l := [.empty]) h (ways_end (by omega) hw (by show passed t (p + 1) 124 = false; rw [passed_some h1]; decide)) rfl
      exact ⟨t.length + 1, by omega, piece_of_atom ha hs⟩
    | bytes a b c d =>
      rw [showX_bytes] at h hle ⊢
      unfold bytesX at h hle ⊢
      rw [shown_flat] at h hle ⊢
      have h0 := (At.cons h).1
      have h1 := (At.cons h).2
      have hl : ((hasIn (.bytes a b c d) 256).flatMap hexB).length = 4 * (hasIn (.bytes a b c d) 256).length := by
        generalize hasIn (.bytes a b c d) 256 = L
        induction L with
        | nil => rfl
        | cons x L ih => rw [List.flatMap_cons, List.length_append, ih, List.length_cons]; show 4 + _ = _; omega
      have hn94 : passed t (p + 1) 94 = false := by
        cases hL : hasIn (.bytes a b c d) 256 with
        | nil => rw [hL] at h1; rw [passed_some (At.cons h1).1]; decide
        | cons x L => rw [hL] at h1; rw [passed_some (At.cons (s := (120 :: hexd (x / 16) :: hexd (x % 16) :: L.flatMap hexB) ++ [93]) h1).1]; decide
      have hi : itemsX t (p + 1) = .ok (.bytes a b c d) (p + (91 :: ((hasIn (.bytes a b c d) 256).flatMap hexB ++ [93])).length) := by
        unfold itemsX
        rw [hn94]
        show itemsL t (t.length + 1) (p + 1) (.bytes 0 0 0 0) = _
        simp only [List.length_cons, List.length_append, List.length_nil] at hle
        rw [itemsL_read _ (fun x hx => (hasIn_mem.1 hx).1) _ _ _ h1 (by omega), words_are hg.1 hg.2.1 hg.2.2.1 hg.2.2.2]
        congr 1
        simp only [List.length_cons, List.length_append, List.length_nil]
        omega
      have ha : atomX (waysX t f) t p = .ok (.bytes a b c d) (p + (91 :: ((hasIn (.bytes a b c d) 256).flatMap hexB ++ [93])).length) := by
        unfold atomX
        rw [take_some h0]
        exact hi
      exact ⟨t.length + 1, by omega, piece_of_atom ha hs⟩
    | cat l =>
      rw [showX_cat] at h hle ⊢
      simp only [RX.size] at hn hs
      simp only [List.length_cons, List.length_append, List.length_nil] at hle
      obtain ⟨g, rfl⟩ : ∃ g, f = g + 1 := ⟨f - 1, by omega⟩
      have h1 := (At.cons h).2
      have h2 := (At.cons (At.app h1).2).1
      have hsl := seq_len_le [] l 0
      have hw : wayX (waysX t g) t (p + 1) = .ok (.cat l) (p + 1 + (seqX [] 0 l).length) := by
        unfold wayX
        rw [way_reads l (fun x hx => ih x (by have := size_mem hx; omega) (goodL_mem hg.2 x hx) (by have := size_mem hx; omega) g) _ _ _ h1 (by omega) (by omega)]
        show PR.ok (mkCat ([] ++ l)) _ = _
        rw [List.nil_append, mkCat_two hg.1]
      have ha := atom_ways (f := g) (u := seqX [] 0 l) (l := [.cat l]) h (ways_end (by omega) hw (by rw [passed_some h2]; decide)) rfl
      exact ⟨t.length + 1, by omega, piece_of_atom ha hs⟩
    | alt l =>
      rw [showX_alt] at h hle ⊢
      simp only [RX.size] at hn hs
      simp only [List.length_cons, List.length_append, List.length_nil] at hle
      obtain ⟨g, rfl⟩ : ∃ g, f = g + 1 := ⟨f - 1, by omega⟩
      have h1 := (At.cons h).2
      have hsl := seq_len_le [124] l 0
      have hw : waysL (waysX t g) t (t.length + 1) (p + 1) [] = .ok l (p + 1 + (seqX [124] 0 l).length) := by
        obtain ⟨r, m, rfl⟩ : ∃ r m, l = r :: m := by
          cases l with
          | nil => exact absurd hg.1 (by simp)
          | cons r m => exact ⟨r, m, rfl⟩
        rw [seq_zero] at h1 hsl hle ⊢
        rw [ways_reads m r (fun x hx => ih x (by have := size_mem hx; omega) (goodL_mem hg.2 x hx) (by have := size_mem hx; omega) g) _ _ _ h1 (by omega) (by simp only [List.length_cons] at hsl; omega)]
        rfl
      have ha := atom_ways (f := g) (u := seqX [124] 0 l) (l := l) h hw (mkAlt_two hg.1)
      exact ⟨t.length + 1, by omega, piece_of_atom ha hs⟩
    | star r =>
      rw [showX_star] at h hle ⊢
      simp only [RX.size] at hn hs
      have h1 := h.app
      have h2 := (At.cons h1.2).1
      obtain ⟨F, hF, e⟩ := ih r (by omega) hg (by omega) f p h1.1 hf
      simp only [List.length_append, List.length_singleton] at hle ⊢
      obtain ⟨G, rfl⟩ : ∃ G, F = G + 1 := ⟨F - 1, by omega⟩
      refine ⟨G, by omega, ?_⟩
      rw [e, post_star h2, sized_ok (by simp only [RX.size]; omega)]
      rfl

/-- What is shown is read as it was. -/
theorem show_parse {r : RX} (hg : good r) (hs : r.size ≤ 500) (hl : (showX r).length ≤ 200) : parseX (showX r) = .inr r := by
  have ha : At (showX r) 0 (showX r) := fun i _ => by rw [Nat.zero_add]
  have hn : (showX r)[(showX r).length]? = none := List.getElem?_eq_none (Nat.le_refl _)
  have hp := (reads_any (showX r) _ r (Nat.le_refl _) hg hs (showX r).length).piece ha (by omega) (by rw [Nat.zero_add]; exact noPost_none hn)
  rw [Nat.zero_add] at hp
  have h0 := List.length_pos_iff.2 (show_ne r)
  rw [parse_one (l := [r]) hl (by
    rw [way_go (by omega) (show_at (r := r) (s := []) (by rw [List.append_nil]; exact ha)).1 hp, way_end (by omega) (endW_none hn)]
    rfl)]
  exact if_neg (by show ¬ 500 < r.size; omega)
end Go.Proofs.X3
