/- Plain mathematics: what lives and begins with nothing may be empty. -/
import Derived.Test.YtmfobiimihaiiaaHq
namespace Go.Proofs.Ytmfobiimihaiiaa

theorem isK_up {a : List Bool} {s : Int} (h : isK false a s = true) : isK true a s = true := by
  unfold isK at *
  split at h
  · rename_i h0; rw [if_pos h0]; exact h
  · cases h
theorem all_up2 {a : List Bool} {l : List Int} (h : l.all (isK false a) = true) : l.all (isK true a) = true := by
  rw [List.all_eq_true] at *
  exact fun x hx => isK_up (h x hx)
theorem empty_lives {ps : List PD} {n : Nat} {E L : List Bool} (h : Least false ps n E) (h2 : Least true ps n L) : LeB E L :=
  h.le fun p hp ha => h2.2 p hp (all_up2 ha)

/-- May each symbol of a row be in a grammar of so many terminals and sorts? -/
def RowOk (nt ns : Nat) (l : List Int) : Prop := ∀ s ∈ l, (0 ≤ s ∧ s < nt) ∨ (s < 0 ∧ -1 - s < ns)
theorem valid_rows {G : GD} (hV : validB G = true) : ∀ p ∈ G.prods, 0 ≤ p.sort ∧ p.sort < G.sorts.length ∧ RowOk G.terms.length G.sorts.length p.rs := by
  intro p hp
  obtain ⟨k, hk, rfl⟩ := List.getElem_of_mem hp
  have := prodB_sortNat (valid_prod hV hk)
  rw [List.getD_eq_getElem?_getD, List.getElem?_eq_getElem hk] at this
  exact ⟨this.1, this.2.1, this.2.2.2⟩

theorem or_zero_left {a b : Nat} (h : a ||| b = 0) : a = 0 := by
  have := sub_le (sub_or_left a b)
  omega
theorem or_zero_right {a b : Nat} (h : a ||| b = 0) : b = 0 := by
  have := sub_le (sub_or_right a b)
  omega
theorem bitN_ne {s : Int} (h0 : 0 ≤ s) (h1 : s < 64) : bitN s ≠ 0 := by
  unfold bitN
  rw [if_pos ⟨h0, h1⟩]
  exact Nat.pos_iff_ne_zero.1 (Nat.two_pow_pos _)

theorem row_begins {nt ns : Nat} {E : List Bool} {F : List Nat} {M : List Bool} (hnt : nt ≤ 60) (hFl : F.length = ns) (hM : ∀ i, M.getD i false = true → E.getD i false = true ∨ F.getD i 0 ≠ 0) :
    ∀ (l : List Int), RowOk nt ns l → l.all (isK true M) = true → l.all (isK false E) = true ∨ ofRow nt E F l 0 ≠ 0
  | [], _, _ => .inl rfl
  | s :: l, hr, ha => by
    rw [List.all_cons, Bool.and_eq_true] at ha
    have ih := row_begins hnt hFl hM l (fun x hx => hr x (List.mem_cons_of_mem _ hx)) ha.2
    have hs := hr s List.mem_cons_self
    unfold ofRow
    by_cases h0 : 0 ≤ s
    · right
      rw [if_pos h0, if_pos (by omega)]
      exact bitN_ne h0 (by omega)
    · rw [if_neg h0, if_neg (by omega)]
      have h1 := ha.1
      unfold isK at h1
      rw [if_pos (by omega)] at h1
      rcases hM _ h1 with h2 | h2
      · rw [if_pos h2]
        rcases ih with h3 | h3
        · left
          rw [List.all_cons, h3, Bool.and_true]
          unfold isK
          rw [if_pos (by omega)]
          exact h2
        · right
          exact fun h4 => h3 (or_zero_right h4)
      · right
        exact fun h4 => h2 (or_zero_left h4)

theorem lives_begins {G : GD} (hV : validB G = true) {E L : List Bool} {F : List Nat} (hE : Least false G.prods G.sorts.length E) (hL : Least true G.prods G.sorts.length L)
    (hF : LeastS (evF G.terms.length E G.prods) G.sorts.length F) (i : Nat) (hi : L.getD i false = true) : E.getD i false = true ∨ F.getD i 0 ≠ 0 := by
  obtain ⟨n60, _, _⟩ := valid_few hV
  have hgd : ∀ i, i < G.sorts.length → ((List.range G.sorts.length).map fun i => E.getD i false || decide (F.getD i 0 ≠ 0)).getD i false = (E.getD i false || decide (F.getD i 0 ≠ 0)) := fun i hi => by
    simp [List.getD_eq_getElem?_getD, hi]
  have hout : ∀ i, ((List.range G.sorts.length).map fun i => E.getD i false || decide (F.getD i 0 ≠ 0)).getD i false = true → E.getD i false = true ∨ F.getD i 0 ≠ 0 := fun i h => by
    by_cases hlt : i < G.sorts.length
    · rw [hgd i hlt, Bool.or_eq_true, decide_eq_true_eq] at h
      exact h
    · rw [List.getD_eq_getElem?_getD, List.getElem?_eq_none (by simp; omega)] at h
      cases h
  refine hout i (hL.le ?_ i hi)
  intro p hp ha
  obtain ⟨h1, h2, h3⟩ := valid_rows hV p hp
  rw [hgd _ (by omega), Bool.or_eq_true, decide_eq_true_eq]
  rcases row_begins n60 hF.length hout p.rs h3 ha with h4 | h4
  · exact .inl (hE.2 p hp h4)
  · right
    intro h5
    have := sub_le (hF.2.1 _ (List.mem_map.2 ⟨p, hp, rfl⟩))
    simp only [h5] at this
    omega

end Go.Proofs.Ytmfobiimihaiiaa
