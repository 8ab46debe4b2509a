/- Plain mathematics of words: two texts on lines, what stands behind a sign, blanks. -/
import Derived.Test.YtonofnjgefoieaaDoorWb
set_option linter.unusedVariables false
namespace Go.Proofs.W8
open Go

theorem runL_stop (p : UInt8 → Bool) (c : UInt8) (hc : p c = false) (z : List UInt8) : ∀ l, runL p (l ++ c :: z) = runL p l
  | [] => by simp [runL, hc]
  | b :: l => by
    simp only [List.cons_append, runL]
    rw [runL_stop p c hc z l]

theorem runL_take (p : UInt8 → Bool) (z l : List UInt8) : (l ++ z).take (runL p l) = l.take (runL p l) := List.take_append_of_le_length (runL_le p l)

theorem rx_more : ∀ l x, rx l = some x → ∀ z, rx (l ++ z) = some x := by
  intro l
  induction l using rx.induct with
  | case1 => intro x h; simp [rx] at h
  | case2 b hb =>
    intro x h z; simp [rx, hb] at h; subst h
    cases z with
    | nil => simp [rx, hb]
    | cons c z => simp [rx, hb]
  | case3 b hb => intro x h; simp [rx, hb] at h
  | case4 b c l h1 => intro x h; simp [rx, h1] at h
  | case5 b c l h1 h2 => intro x h z; simp [rx, h2] at h; subst h; simp [rx, h2]
  | case6 b c l h1 h2 h3 h4 ih =>
    intro x h z; simp [rx, h3, h4] at h
    obtain ⟨a, m, hm, rfl⟩ := h
    simp [rx, h3, h4, ih _ hm]
  | case7 b c l h1 h2 h3 h4 h5 => intro x h; simp [rx, h3, h5] at h
  | case8 b c l h1 h2 h3 h4 h5 ih =>
    intro x h z; simp [rx, h3, h4, h5] at h
    obtain ⟨a, m, hm, rfl⟩ := h
    simp [rx, h3, h4, h5, ih _ hm]
  | case9 b c l h1 h2 h3 ih =>
    intro x h z; simp [rx, h1, h2, h3] at h
    obtain ⟨a, m, hm, rfl⟩ := h
    have := ih _ hm z
    simp at this
    simp [rx, h1, h2, h3, this]

/-- One word is read the same, whatever stands behind, if that begins with a byte that is of no name. -/
theorem rd_more (c : UInt8) (z : List UInt8) (hc : nm c = false) (l : List UInt8) (h : ∀ e, rd l ≠ .bad e) : rd (l ++ c :: z) = rd l := by
  have hd : dg c = false := by have := hc; simp [nm] at this; exact this.2
  cases l with
  | nil => exact absurd rfl (h 5)
  | cons b t =>
    have r1 : runL nm (b :: (t ++ c :: z)) = runL nm (b :: t) := runL_stop nm c hc z (b :: t)
    have r2 : runL dg (b :: (t ++ c :: z)) = runL dg (b :: t) := runL_stop dg c hd z (b :: t)
    have t1 : (b :: (t ++ c :: z)).take (runL nm (b :: t)) = (b :: t).take (runL nm (b :: t)) := runL_take nm (c :: z) (b :: t)
    have t2 : (b :: (t ++ c :: z)).take (runL dg (b :: t)) = (b :: t).take (runL dg (b :: t)) := runL_take dg (c :: z) (b :: t)
    simp only [List.cons_append, rd] at h ⊢
    rw [r1, r2, t1, t2]
    by_cases h1 : lt b = true
    · simp [h1]
    · by_cases h2 : dg b = true
      · simp [h1, h2]
      · by_cases h3 : mk b = true
        · simp [h1, h2, h3]
        · by_cases h4 : b.toNat = 47
          · cases hx : rx t with
            | none => exact absurd (by simp [h1, h2, h3, h4, hx]) (h 5)
            | some x => rw [rx_more t x hx]
          · exact absurd (by simp [h1, h2, h3, h4]) (h 5)

theorem stp_lines (z : List UInt8) (l : List UInt8) (h : ∀ e, stp l ≠ .bad e) : stp (l ++ 10 :: z) = stp l := by
  cases l with
  | nil => exact absurd rfl (h 5)
  | cons b t =>
    have r1 : runL no10 (b :: (t ++ 10 :: z)) = runL no10 (b :: t) := runL_stop no10 10 rfl z (b :: t)
    simp only [List.cons_append, stp] at h ⊢
    rw [r1]
    by_cases h1 : b.toNat = 32 ∨ b.toNat = 9 ∨ b.toNat = 13
    · simp only [if_pos h1]
    · simp only [if_neg h1] at h ⊢
      by_cases h2 : b.toNat = 35
      · simp only [if_pos h2]
      · simp only [if_neg h2] at h ⊢
        by_cases h3 : b.toNat = 10
        · simp only [if_pos h3]
        · simp only [if_neg h3] at h ⊢
          exact rd_more 10 z rfl (b :: t) h

theorem stp_space (z : List UInt8) (l : List UInt8) (h : ∀ e, stp l ≠ .bad e) (hb : ∀ b t, l = b :: t → b.toNat ≠ 35) : stp (l ++ 32 :: z) = stp l := by
  cases l with
  | nil => exact absurd rfl (h 5)
  | cons b t =>
    have h2 := hb b t rfl
    simp only [List.cons_append, stp] at h ⊢
    by_cases h1 : b.toNat = 32 ∨ b.toNat = 9 ∨ b.toNat = 13
    · simp only [if_pos h1]
    · simp only [if_neg h1, if_neg h2] at h ⊢
      by_cases h3 : b.toNat = 10
      · simp only [if_pos h3]
      · simp only [if_neg h3] at h ⊢
        exact rd_more 32 z rfl (b :: t) h

theorem drop_more {l z : List UInt8} {k : Nat} (h : k ≤ l.length) : (l ++ z).drop k = l.drop k ++ z := List.drop_append_of_le_length h

theorem not_bad {l : List UInt8} {s : St} (h : stp l = s) (hs : ∀ e, s ≠ .bad e) : ∀ e, stp l ≠ .bad e := fun e => h ▸ hs e

theorem rd_bad {l : List UInt8} {e : Nat} (h : rd l = .bad e) : e = 4 ∨ e = 5 := by
  unfold rd at h
  repeat' split at h
  all_goals first | (injection h with h; omega) | cases h
theorem stp_bad {l : List UInt8} {e : Nat} (h : stp l = .bad e) : e = 4 ∨ e = 5 := by
  unfold stp at h
  repeat' split at h
  all_goals first | exact rd_bad h | (injection h with h; omega) | cases h

/-- It has no words, or ends with an End. -/
def Ended (l : List Wd) : Prop := ∀ x, l.getLast? = some x → x.kind = 4

theorem enL_Ended (l : List Wd) (a : Nat) : Ended (enL l a) := by
  unfold enL Ended
  split
  · rename_i h; intro x hx; rw [h] at hx; cases hx
  · rename_i y hy
    split
    · rename_i h4; intro x hx; rw [hy] at hx; cases hx; exact h4
    · intro x hx; simp at hx; subst hx; rfl
theorem enL_of_Ended {l : List Wd} (h : Ended l) (a : Nat) : enL l a = l := by
  unfold enL
  split
  · rfl
  · rename_i x hx; rw [if_pos (h x hx)]

theorem Wr.ended {l : List UInt8} {a : Nat} {acc : List Wd} {r} (h : Wr l a acc r) : r.2.1 = 0 → Ended r.1 := by
  induction h with
  | done a acc => intro _; exact enL_Ended _ _
  | skip _ _ _ _ _ _ _ _ ih => exact ih
  | nl _ _ _ _ _ _ _ ih => exact ih
  | wd _ _ _ _ _ _ _ _ _ _ _ ih => exact ih
  | bad l a acc e hl h => intro h0; have := stp_bad h; simp at h0; omega

/-- A line more: what stands behind it goes on with what was ahead. -/
theorem Wr.line {l : List UInt8} {a : Nat} {acc : List Wd} {r} (h : Wr l a acc r) : r.2.1 = 0 → ∀ z r', Wr z (a + l.length + 1) r.1 r' → Wr (l ++ 10 :: z) a acc r' := by
  induction h with
  | done a acc =>
    intro _ z r' h
    exact .nl _ a acc r' (by simp) (by simp [stp]) (by simpa using h)
  | skip l a acc k r hl h h1 ih =>
    intro h0 z r' hz
    have hk := stp_skip h
    refine .skip _ a acc k r' (by simp) ((stp_lines z l (not_bad h (by simp))).trans h) ?_
    rw [drop_more hk.2]
    refine ih h0 z r' ?_
    have e : a + k + (l.drop k).length + 1 = a + l.length + 1 := by simp; omega
    rw [e]; exact hz
  | nl l a acc r hl h h1 ih =>
    intro h0 z r' hz
    have hk : 1 ≤ l.length := by rcases l with _ | ⟨b, t⟩; exact absurd rfl hl; simp
    refine .nl _ a acc r' (by simp) ((stp_lines z l (not_bad h (by simp))).trans h) ?_
    rw [drop_more hk]
    refine ih h0 z r' ?_
    have e : a + 1 + (l.drop 1).length + 1 = a + l.length + 1 := by simp; omega
    rw [e]; exact hz
  | wd l a acc k t n long r hl h h1 ih =>
    intro h0 z r' hz
    have hk := stp_wd h
    refine .wd _ a acc k t n long r' (by simp) ((stp_lines z l (not_bad h (by simp))).trans h) ?_
    rw [drop_more hk.2]
    refine ih h0 z r' ?_
    have e : a + long + (l.drop long).length + 1 = a + l.length + 1 := by simp; omega
    rw [e]; exact hz
  | bad l a acc e hl h => intro h0; have := stp_bad h; simp at h0; omega

def shW (s : Nat) (w : Wd) : Wd := { w with at_ := w.at_ + s }
def shR (s : Nat) (L : List Wd) (r : List Wd × Nat × Nat) : List Wd × Nat × Nat := (L ++ r.1.map (shW s), r.2.1, if r.2.1 = 0 then 0 else r.2.2 + s)

theorem enL_shift (s a : Nat) (L acc : List Wd) (hL : Ended L) : enL (L ++ acc.map (shW s)) (a + s) = L ++ (enL acc a).map (shW s) := by
  cases hacc : acc.getLast? with
  | none =>
    have : acc = [] := List.getLast?_eq_none_iff.1 hacc
    subst this
    have e : enL [] a = [] := rfl
    rw [e, List.map_nil, List.append_nil, enL_of_Ended hL]
  | some x =>
    have h1 : (L ++ acc.map (shW s)).getLast? = some (shW s x) := by
      simp [List.getLast?_append, List.getLast?_map, hacc]
    simp only [enL, h1, hacc]
    by_cases h4 : x.kind = 4
    · simp [shW, h4]
    · simp [shW, h4]

theorem Wr.shift {l : List UInt8} {a : Nat} {acc : List Wd} {r} (h : Wr l a acc r) (s : Nat) (L : List Wd) (hL : Ended L) : Wr l (a + s) (L ++ acc.map (shW s)) (shR s L r) := by
  induction h with
  | done a acc =>
    have := Wr.done (a + s) (L ++ acc.map (shW s))
    rw [enL_shift s a L acc hL] at this
    exact this
  | skip l a acc k r hl h h1 ih =>
    refine .skip _ _ _ k _ hl h ?_
    rw [Nat.add_right_comm]; exact ih
  | nl l a acc r hl h h1 ih =>
    refine .nl _ _ _ _ hl h ?_
    rw [Nat.add_right_comm, enL_shift s a L acc hL]; exact ih
  | wd l a acc k t n long r hl h h1 ih =>
    refine .wd _ _ _ k t n long _ hl h ?_
    rw [Nat.add_right_comm]
    simpa [shW] using ih
  | bad l a acc e hl h =>
    have := stp_bad h
    have h2 := Wr.bad l (a + s) (L ++ acc.map (shW s)) e hl h
    have e1 : shR s L (acc, e, a) = (L ++ acc.map (shW s), e, a + s) := by simp [shR]; omega
    rw [e1]; exact h2

/-- Two texts, one on the lines behind the other. -/
theorem words_lines (a b : List UInt8) (ha : a.length ≤ 400) (hb : b.length ≤ 400) (h : (words a).2.1 = 0) :
    words (a ++ 10 :: b) = shR (a.length + 1) (words a).1 (words b) := by
  have h1 := words_Wr (l := a) (by omega)
  have h2 := words_Wr (l := b) (by omega)
  have h3 := h2.shift (a.length + 1) (words a).1 (h1.ended h)
  refine Wr.words ?_ (by simp; omega)
  refine h1.line h b _ ?_
  have e : 0 + a.length + 1 = 0 + (a.length + 1) := by omega
  rw [e]; simpa using h3

/-- Three blanks ahead. -/
theorem words_blanks (t : List UInt8) (ht : t.length ≤ 400) : words (9 :: 32 :: 13 :: t) = shR 3 [] (words t) := by
  have h1 := words_Wr (l := t) (by omega)
  have h3 := h1.shift 3 [] (by intro x hx; cases hx)
  refine Wr.words ?_ (by simp; omega)
  refine .skip _ 0 [] 1 _ (by simp) (by simp [stp]) ?_
  refine .skip _ _ [] 1 _ (by simp) (by simp [stp]) ?_
  refine .skip _ _ [] 1 _ (by simp) (by simp [stp]) ?_
  simpa using h3

/-- The kinds and texts alone. -/
def ktL (l : List Wd) : List (Nat × List UInt8) := l.map fun w => (w.kind, w.text)

theorem enL_kt (acc : List Wd) (a b : Nat) : ktL (enL acc a) = ktL (enL acc b) := by
  unfold enL
  split
  · rfl
  · split
    · rfl
    · simp [ktL]

theorem runL_all (p : UInt8 → Bool) : ∀ l, (∀ b ∈ l, p b = true) → runL p l = l.length
  | [], _ => rfl
  | b :: l, h => by simp [runL, h b (by simp), runL_all p l (fun c hc => h c (by simp [hc]))]
theorem runL_append_all (p : UInt8 → Bool) (z : List UInt8) : ∀ l, runL p l = l.length → runL p (l ++ z) = l.length + runL p z
  | [], _ => by simp
  | b :: l, h => by
    by_cases hb : p b = true
    · simp [runL, hb] at h ⊢; rw [runL_append_all p z l h]; omega
    · simp [runL, hb] at h
theorem runL_append_lt (p : UInt8 → Bool) (z : List UInt8) : ∀ l, runL p l < l.length → runL p (l ++ z) = runL p l
  | [], h => by simp [runL] at h
  | b :: l, h => by
    by_cases hb : p b = true
    · simp [runL, hb] at h ⊢; rw [runL_append_lt p z l h]
    · simp [runL, hb]

theorem Wr.sign {l : List UInt8} {a : Nat} {acc : List Wd} {r} (h : Wr l a acc r) (m : List UInt8) (hm : ∀ b ∈ m, no10 b = true) : r.2.1 = 0 → ∃ r', Wr (l ++ 32 :: 35 :: m) a acc r' ∧ r'.2.1 = 0 ∧ ktL r'.1 = ktL r.1 := by
  have hmm : runL no10 (35 :: m) = m.length + 1 := by
    rw [runL_all no10 (35 :: m) (by intro b hb; rcases List.mem_cons.1 hb with rfl | h; rfl; exact hm b h)]; simp
  induction h with
  | done a acc =>
    intro _
    refine ⟨(enL acc (a + 1 + (m.length + 1)), 0, 0), .skip _ a acc 1 _ (by simp) (by simp [stp]) ?_, ?_, ?_⟩
    · refine .skip _ _ acc (m.length + 1) _ (by simp) ?_ ?_
      · simp only [List.nil_append, List.drop_succ_cons, List.drop_zero, stp]
        rw [if_neg (by decide), if_pos (by decide), hmm]
      · have : ((([] : List UInt8) ++ 32 :: 35 :: m).drop 1).drop (m.length + 1) = [] := by simp
        rw [this]; exact .done _ _
    · rfl
    · exact enL_kt _ _ _
  | skip l a acc k r hl h h1 ih =>
    intro h0
    have hk := stp_skip h
    by_cases hb : ∀ b t, l = b :: t → b.toNat ≠ 35
    · obtain ⟨r', hr, e1, e2⟩ := ih h0
      refine ⟨r', .skip _ a acc k r' (by simp) ((stp_space (35 :: m) l (not_bad h (by simp)) hb).trans h) ?_, e1, e2⟩
      rw [drop_more hk.2]; exact hr
    · have ⟨b, t, hlt, h35⟩ : ∃ b t, l = b :: t ∧ b.toNat = 35 := by
        rcases l with _ | ⟨b, t⟩
        · exact absurd rfl hl
        · exact ⟨b, t, rfl, Classical.byContradiction fun hn => hb (by intro b' t' e; cases e; exact hn)⟩
      have hs : ∀ z, stp (l ++ z) = .skip (runL no10 (l ++ z)) := by
        intro z; rw [hlt]; simp only [List.cons_append, stp]
        rw [if_neg (by omega), if_pos h35]
      have hs0 := hs []
      rw [List.append_nil, h] at hs0
      injection hs0 with hkk
      by_cases hlen : runL no10 l < l.length
      · obtain ⟨r', hr, e1, e2⟩ := ih h0
        refine ⟨r', .skip _ a acc k r' (by simp) (by rw [hs, runL_append_lt no10 _ l hlen, hkk]) ?_, e1, e2⟩
        rw [drop_more hk.2]; exact hr
      · have hfull : runL no10 l = l.length := by have := runL_le no10 l; omega
        have hz : runL no10 (32 :: 35 :: m) = m.length + 2 := by
          rw [runL_all no10 (32 :: 35 :: m) (by intro b hb; rcases List.mem_cons.1 hb with rfl | h; rfl; rcases List.mem_cons.1 h with rfl | h; rfl; exact hm b h)]; simp
        have hd : l.drop k = [] := by rw [hkk, hfull]; simp
        rw [hd] at h1
        have hr := h1.same (.done _ _)
        refine ⟨(enL acc (a + (l.length + (m.length + 2))), 0, 0), .skip _ a acc (l.length + (m.length + 2)) _ (by simp) (by rw [hs, runL_append_all no10 _ l hfull, hz]) ?_, rfl, ?_⟩
        · have : (l ++ 32 :: 35 :: m).drop (l.length + (m.length + 2)) = [] := by simp
          rw [this]; exact .done _ _
        · rw [hr]; exact enL_kt _ _ _
  | nl l a acc r hl h h1 ih =>
    intro h0
    obtain ⟨r', hr, e1, e2⟩ := ih h0
    have hk : 1 ≤ l.length := by rcases l with _ | ⟨b, t⟩; exact absurd rfl hl; simp
    refine ⟨r', .nl _ a acc r' (by simp) ((stp_space (35 :: m) l (not_bad h (by simp)) ?_).trans h) ?_, e1, e2⟩
    · intro b t e h35; subst e; simp only [stp] at h; rw [if_neg (by omega), if_pos h35] at h; cases h
    · rw [drop_more hk]; exact hr
  | wd l a acc k t n long r hl h h1 ih =>
    intro h0
    obtain ⟨r', hr, e1, e2⟩ := ih h0
    have hk := stp_wd h
    refine ⟨r', .wd _ a acc k t n long r' (by simp) ((stp_space (35 :: m) l (not_bad h (by simp)) ?_).trans h) ?_, e1, e2⟩
    · intro b t e h35; subst e; simp only [stp] at h; rw [if_neg (by omega), if_pos h35] at h; cases h
    · rw [drop_more hk.2]; exact hr
  | bad l a acc e hl h => intro h0; have := stp_bad h; simp at h0; omega

/-- What stands behind a sign, to the end of the line, is no word. -/
theorem words_sign (t m : List UInt8) (ht : t.length ≤ 400) (hml : m.length ≤ 500) (hm : ∀ b ∈ m, no10 b = true) (h : (words t).2.1 = 0) :
    (words (t ++ 32 :: 35 :: m)).2.1 = 0 ∧ ktL (words (t ++ 32 :: 35 :: m)).1 = ktL (words t).1 := by
  obtain ⟨r', hr, e1, e2⟩ := (words_Wr (l := t) (by omega)).sign m hm h
  rw [hr.words (by simp; omega)]
  exact ⟨e1, e2⟩

end Go.Proofs.W8
