/- Plain mathematics: rounds enough come to what is closed. -/
import Derived.Test.YtmfobiimihaiiaaMf
namespace Go.Proofs.Ytmfobiimihaiiaa

/-- How many are false. -/
abbrev cf (l : List Bool) : Nat := l.count false

section
variable {σ : Type} {Inv : σ → Prop} {pat : σ → List Bool} {us : List (σ → σ)}

/-- What each turn is: it keeps what is kept; it does the same to what looks the same; and it changes nothing in the looks, or makes one more true. -/
structure Turns (Inv : σ → Prop) (pat : σ → List Bool) (us : List (σ → σ)) : Prop where
  keep : ∀ u ∈ us, ∀ L, Inv L → Inv (u L)
  same : ∀ u ∈ us, ∀ L L', Inv L → Inv L' → pat L = pat L' → pat (u L) = pat (u L')
  less : ∀ u ∈ us, ∀ L, Inv L → pat (u L) = pat L ∨ cf (pat (u L)) < cf (pat L)

/-- One round. -/
def roundU (us : List (σ → σ)) (L : σ) : σ := us.foldl (fun L u => u L) L
theorem Turns.tail {u : σ → σ} (h : Turns Inv pat (u :: us)) : Turns Inv pat us :=
  ⟨fun v hv => h.keep v (List.mem_cons_of_mem _ hv), fun v hv => h.same v (List.mem_cons_of_mem _ hv), fun v hv => h.less v (List.mem_cons_of_mem _ hv)⟩
theorem Turns.inv : ∀ {us : List (σ → σ)}, Turns Inv pat us → ∀ L, Inv L → Inv (roundU us L)
  | [], _, _, hL => hL
  | u :: us, h, L, hL => Turns.inv (us := us) h.tail (u L) (h.keep u List.mem_cons_self L hL)
theorem Turns.round : ∀ {us : List (σ → σ)}, Turns Inv pat us → ∀ L, Inv L → (pat (roundU us L) = pat L ∧ ∀ u ∈ us, pat (u L) = pat L) ∨ cf (pat (roundU us L)) < cf (pat L)
  | [], _, L, _ => .inl ⟨rfl, fun _ h => absurd h (by simp)⟩
  | u :: us, h, L, hL => by
    have hu := h.keep u List.mem_cons_self L hL
    have ih := Turns.round (us := us) h.tail (u L) hu
    rcases h.less u List.mem_cons_self L hL with h1 | h1
    · rcases ih with ⟨h2, h3⟩ | h2
      · left
        refine ⟨h2.trans h1, fun v hv => ?_⟩
        rcases List.mem_cons.1 hv with rfl | hv
        · exact h1
        · rw [← h.same v (List.mem_cons_of_mem _ hv) (u L) L hu hL h1, h3 v hv, h1]
      · right
        rw [h1] at h2
        exact h2
    · right
      rcases ih with ⟨h2, _⟩ | h2
      · show cf (pat (roundU us (u L))) < _
        rw [h2]; exact h1
      · exact Nat.lt_trans h2 h1
theorem Turns.still (h : Turns Inv pat us) {L : σ} (hL : Inv L) (hc : ∀ u ∈ us, pat (u L) = pat L) : ∀ u ∈ us, pat (u (roundU us L)) = pat (roundU us L) := by
  have hr : pat (roundU us L) = pat L := by
    rcases h.round L hL with ⟨h1, _⟩ | h1
    · exact h1
    · exfalso
      have : ∀ (vs : List (σ → σ)), Turns Inv pat vs → ∀ M, Inv M → pat M = pat L → (∀ u ∈ vs, pat (u L) = pat L) → pat (roundU vs M) = pat L := by
        intro vs
        induction vs with
        | nil => exact fun _ M _ hM _ => hM
        | cons v vs ih =>
          intro ht M hI hM hcv
          exact ih ht.tail (v M) (ht.keep v List.mem_cons_self M hI) ((ht.same v List.mem_cons_self M L hI hL hM).trans (hcv v List.mem_cons_self)) (fun u hu => hcv u (List.mem_cons_of_mem _ hu))
      rw [this us h L hL rfl hc] at h1
      exact Nat.lt_irrefl _ h1
  intro u hu
  rw [h.same u hu _ L (h.inv L hL) hL hr, hc u hu, hr]

/-- Some rounds. -/
def roundsU (us : List (σ → σ)) : Nat → σ → σ
  | 0, L => L
  | n + 1, L => roundU us (roundsU us n L)
theorem Turns.invs (h : Turns Inv pat us) {L : σ} (hL : Inv L) : ∀ n, Inv (roundsU us n L)
  | 0 => hL
  | n + 1 => h.inv _ (h.invs hL n)
theorem Turns.enough (h : Turns Inv pat us) {L : σ} (hL : Inv L) : ∀ n, (∀ u ∈ us, pat (u (roundsU us n L)) = pat (roundsU us n L)) ∨ cf (pat (roundsU us n L)) + n ≤ cf (pat L)
  | 0 => .inr (Nat.le_refl _)
  | n + 1 => by
    rcases h.enough hL n with h1 | h1
    · exact .inl (h.still (h.invs hL n) h1)
    · rcases h.round _ (h.invs hL n) with ⟨_, h2⟩ | h2
      · exact .inl (h.still (h.invs hL n) h2)
      · right
        show cf (pat (roundU us (roundsU us n L))) + (n + 1) ≤ _
        omega
/-- With one round more than may be false nothing changes any more. -/
theorem Turns.closed (h : Turns Inv pat us) {L : σ} (hL : Inv L) {n : Nat} (hn : cf (pat L) ≤ n) : ∀ u ∈ us, pat (u (roundsU us (n + 1) L)) = pat (roundsU us (n + 1) L) := by
  rcases h.enough hL (n + 1) with h1 | h1
  · exact h1
  · omega
end

/-! ### Truths -/
def usB (k : Bool) (ps : List PD) : List (List Bool → List Bool) := ps.map fun p L => stepB k L p
theorem turnsB {k : Bool} {ps : List PD} {n : Nat} (hs : ∀ p ∈ ps, p.sort.toNat < n) : Turns (fun L : List Bool => L.length = n) id (usB k ps) := by
  refine ⟨fun u hu L hL => ?_, fun u _ L L' _ _ e => by rw [show L = L' from e], fun u hu L hL => ?_⟩
  · obtain ⟨p, _, rfl⟩ := List.mem_map.1 hu
    show (stepB k L p).length = n
    rw [stepB_length]; exact hL
  · obtain ⟨p, hp, rfl⟩ := List.mem_map.1 hu
    rcases step_cases k L p (by have := hs p hp; have : L.length = n := hL; omega) with ⟨_, h, _⟩ | ⟨_, h⟩
    · exact .inl h
    · exact .inr h
theorem reach_roundsB {k : Bool} {ps : List PD} {L0 : List Bool} (n : Nat) : Reach k ps L0 (roundsU (usB k ps) n L0) := by
  induction n with
  | zero => exact .refl
  | succ n ih =>
    have : ∀ (qs : List PD), (∀ q ∈ qs, q ∈ ps) → ∀ M, Reach k ps L0 M → Reach k ps L0 (roundU (usB k qs) M) := by
      intro qs
      induction qs with
      | nil => exact fun _ M h => h
      | cons q qs ih2 => exact fun hq M h => ih2 (fun x hx => hq x (List.mem_cons_of_mem _ hx)) _ (.step h (hq q List.mem_cons_self))
    exact this ps (fun _ h => h) _ ih
theorem least_rounds {k : Bool} {ps : List PD} {n : Nat} (hs : ∀ p ∈ ps, p.sort.toNat < n) : Least k ps n (roundsU (usB k ps) (n + 1) (List.replicate n false)) := by
  refine ⟨reach_roundsB _, fun p hp ha => ?_⟩
  have hc := (turnsB (k := k) hs).closed (L := List.replicate n false) (by simp) (n := n) (by show (List.replicate n false).count false ≤ n; simp) _ (List.mem_map.2 ⟨p, hp, rfl⟩)
  have hl := (turnsB (k := k) hs).invs (L := List.replicate n false) (by simp) (n + 1)
  generalize roundsU (usB k ps) (n + 1) (List.replicate n false) = M at *
  have h1 : stepB k M p = M := hc
  have h2 := congrArg (fun l => l.getD p.sort.toNat false) h1
  simp only [stepB] at h2
  rw [List.getD_eq_getElem?_getD, List.getElem?_set_self (by have := hs p hp; have : M.length = n := hl; omega)] at h2
  rw [← h2, ha]
  simp

end Go.Proofs.Ytmfobiimihaiiaa
