/- Plain mathematics of words: they stand in order; numbers; the example. -/
import Derived.Test.YtonofnjgefoieaaDoorWc
set_option linter.unusedVariables false
namespace Go.Proofs.W8
open Go

def isName (l : List UInt8) : Bool :=
  match l with
  | [] => false
  | b :: _ => decide (l.length ≤ 32) && lt b && decide (runL nm l = l.length)

theorem runL_idem (p : UInt8 → Bool) : ∀ l, runL p (l.take (runL p l)) = runL p l
  | [] => rfl
  | b :: l => by
    by_cases hb : p b = true
    · simp [runL, hb, runL_idem p l]
    · simp [runL, hb]

/-- Where a word ends, as far as it is told. -/
def endW (w : Wd) : Nat := if w.kind ≤ 2 then w.at_ + w.text.length else w.at_
def endL (L : List Wd) : Nat := match L.getLast? with | none => 0 | some w => endW w

structure GoodW (t : List UInt8) (pre : List Wd) (w : Wd) : Prop where
  after : endL pre ≤ w.at_
  within : w.at_ ≤ t.length
  ends : w.kind = 4 → ∃ x, pre.getLast? = some x ∧ x.kind ≠ 4
  plain : w.kind ≤ 2 → w.at_ + w.text.length ≤ t.length ∧ (t.drop w.at_).take w.text.length = w.text ∧ 1 ≤ w.text.length
  name : w.kind = 0 → isName w.text = true
  kinds : w.kind ≤ 4

def GoodL (t : List UInt8) (L : List Wd) : Prop := ∀ (i : Nat) (h : i < L.length), GoodW t (L.take i) L[i]

theorem GoodL.snoc {t : List UInt8} {L : List Wd} {w : Wd} (h : GoodL t L) (hw : GoodW t L w) : GoodL t (L ++ [w]) := by
  intro i hi
  by_cases e : i < L.length
  · have := h i e
    rw [List.take_append_of_le_length (by omega), List.getElem_append_left e]; exact this
  · have e2 : i = L.length := by simp at hi; omega
    subst e2
    simpa using hw

theorem endL_snoc (L : List Wd) (w : Wd) : endL (L ++ [w]) = endW w := by simp [endL]

theorem enL_good {t : List UInt8} {acc : List Wd} {a : Nat} (h : GoodL t acc) (ha : endL acc ≤ a) (hat : a ≤ t.length) : GoodL t (enL acc a) ∧ endL (enL acc a) ≤ a := by
  unfold enL
  split
  · exact ⟨h, ha⟩
  · rename_i x hx
    split
    · exact ⟨h, ha⟩
    · rename_i h4
      refine ⟨h.snoc ⟨ha, hat, fun _ => ⟨x, hx, h4⟩, by simp, by simp, by simp⟩, ?_⟩
      rw [endL_snoc]; simp [endW]

theorem drop_take_drop {t l : List UInt8} {a n : Nat} (h : l = t.drop a) : l.drop n = t.drop (a + n) := by rw [h, List.drop_drop]

theorem Wr.good {t l : List UInt8} {a : Nat} {acc : List Wd} {r} (h : Wr l a acc r) : l = t.drop a → a ≤ t.length → GoodL t acc → endL acc ≤ a → GoodL t r.1 ∧ (r.2.1 ≠ 0 → endL r.1 ≤ r.2.2 ∧ r.2.2 < t.length) ∧ (r.2.1 = 0 → endL r.1 ≤ t.length) := by
  induction h with
  | done a acc =>
    intro hl ha hg he
    have := enL_good hg he ha
    exact ⟨this.1, by simp, fun _ => by have := this.2; simp; omega⟩
  | skip l a acc k r hl h h1 ih =>
    intro hd ha hg he
    have hk := stp_skip h
    have hlen : l.length = t.length - a := by rw [hd]; simp
    exact ih (drop_take_drop hd) (by omega) hg (by omega)
  | nl l a acc r hl h h1 ih =>
    intro hd ha hg he
    have hk : 1 ≤ l.length := by rcases l with _ | ⟨b, t⟩; exact absurd rfl hl; simp
    have hlen : l.length = t.length - a := by rw [hd]; simp
    have h2 := enL_good hg he ha
    exact ih (drop_take_drop hd) (by omega) h2.1 (by have := h2.2; omega)
  | wd l a acc k tx n long r hl h h1 ih =>
    intro hd ha hg he
    have hk := stp_wd h
    have hlen : l.length = t.length - a := by rw [hd]; simp
    have hrd : rd l = .wd k tx n long := by
      unfold stp at h
      repeat' split at h
      all_goals first | exact h | cases h
    have hw : (k = 0 ∧ tx = l.take long ∧ isName tx = true) ∨ (k = 1 ∧ tx = l.take long) ∨ (k = 2 ∧ tx = l.take long) ∨ k = 3 := by
      unfold rd at hrd
      split at hrd
      · cases hrd
      · rename_i b l'
        split at hrd
        · rename_i hb
          split at hrd
          · cases hrd
          · rename_i h32
            injection hrd with e1 e2 e3 e4
            subst e1 e2 e3 e4
            refine Or.inl ⟨rfl, rfl, ?_⟩
            have hp : 1 ≤ runL nm (b :: l') := runL_pos (by simp [nm, hb])
            have hle := runL_le nm (b :: l')
            have hid := runL_idem nm (b :: l')
            have e5 : (b :: l').take (runL nm (b :: l')) = b :: l'.take (runL nm (b :: l') - 1) := by
              obtain ⟨m, hm⟩ : ∃ m, runL nm (b :: l') = m + 1 := ⟨_, (Nat.sub_add_cancel hp).symm⟩
              rw [hm]; simp
            have e6 : ((b :: l').take (runL nm (b :: l'))).length = runL nm (b :: l') := by rw [List.length_take]; omega
            rw [e5] at hid e6 ⊢
            simp only [isName, hb, hid, e6]
            simp; omega
        · split at hrd
          · split at hrd
            · cases hrd
            · injection hrd with e1 e2 e3 e4
              subst e1 e2 e3 e4
              exact Or.inr (Or.inl ⟨rfl, rfl⟩)
          · split at hrd
            · injection hrd with e1 e2 e3 e4
              subst e1 e2 e3 e4
              exact Or.inr (Or.inr (Or.inl ⟨rfl, rfl⟩))
            · split at hrd
              · split at hrd
                · injection hrd with e1 e2 e3 e4
                  exact Or.inr (Or.inr (Or.inr e1.symm))
                · cases hrd
              · cases hrd
    have htl : k ≤ 2 → tx = l.take long := by
      intro h2
      rcases hw with h | h | h | h
      · exact h.2.1
      · exact h.2
      · exact h.2
      · omega
    have hk4 : k ≤ 3 := by
      rcases hw with h | h | h | h
      · omega
      · omega
      · omega
      · omega
    have hlt : k ≤ 2 → tx.length = long := by intro h2; rw [htl h2, List.length_take]; omega
    have hgw : GoodW t acc ⟨k, tx, n, a⟩ := by
      refine ⟨he, ha, ?_, ?_, ?_, ?_⟩
      · intro h4; simp at h4; omega
      · intro h2
        have h3 := hlt h2
        refine ⟨?_, ?_, ?_⟩
        · simp at h2 ⊢; omega
        · simp only; rw [← hd, h3]; exact (htl h2).symm
        · simp only; omega
      · intro h0
        rcases hw with h | h | h | h
        · exact h.2.2
        · simp at h0; omega
        · simp at h0; omega
        · simp at h0; omega
      · simp; omega
    refine ih (drop_take_drop hd) (by omega) (hg.snoc hgw) ?_
    rw [endL_snoc]
    unfold endW
    split
    · rename_i h2; have := hlt h2; simp; omega
    · simp
  | bad l a acc e hl h =>
    intro hd ha hg he
    have hk : 1 ≤ l.length := by rcases l with _ | ⟨b, t⟩; exact absurd rfl hl; simp
    have hlen : l.length = t.length - a := by rw [hd]; simp
    have := stp_bad h
    exact ⟨hg, fun _ => ⟨he, by simp; omega⟩, by simp; omega⟩

/-- Words stand in order, and don't overlap. -/
theorem words_good (t : List UInt8) (ht : t.length ≤ 400) : GoodL t (words t).1 ∧ ((words t).2.1 ≠ 0 → endL (words t).1 ≤ (words t).2.2 ∧ (words t).2.2 < t.length) ∧ ((words t).2.1 = 0 → Ended (words t).1) := by
  have h := words_Wr (l := t) (by omega)
  have h2 := h.good (t := t) rfl (Nat.zero_le _) (fun i hi => absurd hi (Nat.not_lt_zero _)) (Nat.le_refl _)
  exact ⟨h2.1, h2.2.1, h.ended⟩

/-- Digits alone are one number, and an end. -/
theorem words_digits (s : List UInt8) (h0 : s ≠ []) (h9 : s.length ≤ 9) (hd : ∀ b ∈ s, dg b = true) : words s = ([⟨1, s, numL s, 0⟩, ⟨4, [], 0, s.length⟩], 0, 0) := by
  refine Wr.words ?_ (by omega)
  have hr := runL_all dg s hd
  refine .wd s 0 [] 1 s (numL s) s.length _ h0 ?_ ?_
  · cases s with
    | nil => exact absurd rfl h0
    | cons b t =>
      have hb := hd b (by simp)
      have hb' : 48 ≤ b.toNat ∧ b.toNat ≤ 57 := by simpa [dg] using hb
      have hlt : lt b = false := by simp [lt]; omega
      simp only [stp]
      rw [if_neg (by omega), if_neg (by omega), if_neg (by omega)]
      simp only [rd, hlt, hb, hr]
      rw [if_neg (by simp), if_pos trivial, if_neg (by omega), List.take_length]
  · have : s.drop s.length = [] := by simp
    rw [this]
    have := Wr.done (0 + s.length) [⟨1, s, numL s, 0⟩]
    simpa [enL] using this

theorem numL_app (l : List UInt8) : ∀ n, l.foldl (fun n b => n * 10 + (b.toNat - 48)) n = n * 10 ^ l.length + numL l := by
  induction l with
  | nil => intro n; simp [numL]
  | cons b l ih =>
    intro n
    have h1 := ih (n * 10 + (b.toNat - 48))
    have h2 := ih (b.toNat - 48)
    simp only [List.foldl_cons, List.length_cons, numL, Nat.zero_mul, Nat.zero_add]
    rw [h1, h2, Nat.add_mul, Nat.pow_succ', Nat.mul_assoc, Nat.add_assoc]
theorem numL_cons (b : UInt8) (l : List UInt8) : numL (b :: l) = (b.toNat - 48) * 10 ^ l.length + numL l := by
  have := numL_app l (b.toNat - 48)
  simpa [numL] using this

def ofS (s : String) : List UInt8 := s.toUTF8.data.toList

theorem example_words : words (ofS "term if /if/ # a word") = ([⟨0, ofS "term", 0, 0⟩, ⟨0, ofS "if", 0, 5⟩, ⟨3, ofS "if", 0, 8⟩, ⟨4, [], 0, 21⟩], 0, 0) := by decide +kernel
theorem example_quote : qt (ofS "a/b") = some (ofS "a\\/b/") := by decide +kernel
theorem example_name : isName (ofS "a_1") = true ∧ isName (ofS "1a") = false := by decide +kernel

end Go.Proofs.W8
