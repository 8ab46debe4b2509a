/- Building, round by round: plain mathematics; what is told of an automaton in memory. -/
import Derived.Test.YtjpbhbfklkipkaaDoorSu
namespace Go.Proofs.X14
open Go.Proofs.YtjpbhbfklkipkaaDoor (GD PD validB inR)
set_option linter.unusedVariables false
theorem rowX_mem (G : GD) (c : List It) : ∀ (r : List Int) (s : List Int × List (List It)), ∀ k ∈ (rowX G c r s).2, k ∈ s.2 ∨ ∃ y, k = stepX G c y
  | [], s, k, h => .inl h
  | y :: r, s, k, h => by
    rw [rowX] at h
    rcases rowX_mem G c r _ k h with h | h
    · simp only at h
      unfold numX at h
      split at h
      · exact .inl h
      · split at h
        · exact .inl h
        · rcases List.mem_append.1 h with h | h
          · exact .inl h
          · exact .inr ⟨y, List.mem_singleton.1 h⟩
    · exact .inr h
def rowS (G : GD) (c : List It) (ker : List (List It)) (t : Nat) : List Int × List (List It) := rowX G c ((symsX G).take t) ([], ker)
theorem rowS_succ {G : GD} {c : List It} {ker : List (List It)} {t : Nat} {y : Int} (h : (symsX G)[t]? = some y) : rowS G c ker (t + 1) = ((rowS G c ker t).1 ++ [(numX (stepX G c y) (rowS G c ker t).2).1], (numX (stepX G c y) (rowS G c ker t).2).2) := by
  unfold rowS
  rw [List.take_add_one, h, rowX_app]
  rfl
theorem rowS_zero (G : GD) (c : List It) (ker : List (List It)) : rowS G c ker 0 = ([], ker) := rfl
theorem rowS_all (G : GD) (c : List It) (ker : List (List It)) : rowS G c ker (symsX G).length = rowX G c (symsX G) ([], ker) := by unfold rowS; rw [List.take_length]
theorem rowS_len (G : GD) (c : List It) (ker : List (List It)) (t : Nat) : (rowS G c ker t).1.length ≤ t ∧ (rowS G c ker t).2.length ≤ ker.length + t := by
  obtain ⟨h1, h2, h3⟩ := rowX_len G c ((symsX G).take t) ([], ker)
  unfold rowS
  rw [List.length_take] at h1 h3
  exact ⟨by simp only [List.length_nil] at h1; omega, by simp only at h3; omega⟩
theorem syms_term {G : GD} {t : Nat} (h : t < G.terms.length) : (symsX G)[t]? = some (t : Int) := by
  unfold symsX
  rw [List.getElem?_append_left (by simpa using h)]
  simp [h]
theorem syms_sort {G : GD} {s : Nat} (h : s < G.sorts.length) : (symsX G)[G.terms.length + s]? = some (-1 - (s : Int)) := by
  unfold symsX
  rw [List.getElem?_append_right (by simp), List.length_map, List.length_range, Nat.add_sub_cancel_left]
  simp [h]
theorem step_inR {G : GD} (hv : validB G = true) {c : List It} (hc : ∀ x ∈ c, thereX G x = true) {s : Int} : (∀ y ∈ stepX G c s, inR y) := fun y hy => by
  obtain ⟨x, hx, hb, rfl⟩ := mem_step.1 hy
  obtain ⟨h1, h2, h3, h4⟩ := there_iff.1 (hc x hx)
  have h5 := right_le hv h1 h2
  have h6 := (Go.Proofs.YtjpbhbfklkipkaaDoor.valid_parts hv).2.2.1
  exact ⟨⟨by show -9223372036854775808 ≤ x.1; omega, by show x.1 ≤ 9223372036854775807; omega⟩, by show -9223372036854775808 ≤ x.2 + 1; omega, by show x.2 + 1 ≤ 9223372036854775807; omega⟩
theorem step_le {G : GD} (l : List It) (s : Int) (hv : validB G = true) : (stepX G (closeX G l) s).length ≤ 1573 := by
  have := stepV_len G l s
  unfold stepV closeV at this
  rw [if_pos hv] at this
  exact this
/-- Each kernel is short. -/
theorem iter_len {G : GD} (hv : validB G = true) : ∀ m, ∀ k ∈ (iterB G m).ker, k.length ≤ 1573
  | 0, k, hk => by
    rw [show k = [(-1, 0)] by simpa [iterB] using hk]
    decide
  | m + 1, k, hk => by
    rcases rowX_mem G _ _ _ k hk with h | ⟨y, rfl⟩
    · exact iter_len hv m k h
    · exact step_le _ y hv
theorem Built.zero (G : GD) : Built G 0 := ⟨fun m hm => absurd hm (Nat.not_lt_zero m), fun m hm => absurd hm (Nat.not_lt_zero m)⟩
theorem Built.le {G : GD} {m : Nat} (h : Built G m) : (iterB G m).ker.length ≤ 2000 := by
  cases m with
  | zero => show (1 : Nat) ≤ 2000; omega
  | succ m => exact h.2 m (Nat.lt_succ_self m)
theorem Built.succ {G : GD} {m : Nat} (h : Built G m) (h1 : m < (iterB G m).ker.length) (h2 : (iterB G (m + 1)).ker.length ≤ 2000) : Built G (m + 1) :=
  ⟨fun q hq => by
    rcases Nat.lt_succ_iff_lt_or_eq.1 hq with e | e
    · exact h.1 q e
    · rw [e]; exact h1, fun q hq => by
    rcases Nat.lt_succ_iff_lt_or_eq.1 hq with e | e
    · exact h.2 q e
    · rw [e]; exact h2⟩
theorem iter_succ (G : GD) (m : Nat) : (iterB G (m + 1)).ker = (rowS G (closeX G ((iterB G m).ker.getD m [])) (iterB G m).ker (symsX G).length).2 ∧ (iterB G (m + 1)).nx = (iterB G m).nx ++ [(rowS G (closeX G ((iterB G m).ker.getD m [])) (iterB G m).ker (symsX G).length).1] := by
  have h := (iterB_at G m).1
  show (stepB G (iterB G m)).ker = _ ∧ (stepB G (iterB G m)).nx = _
  unfold stepB
  rw [h, rowS_all]
  exact ⟨rfl, rfl⟩
theorem nx_range {G : GD} {n : Nat} (h : BuiltOk G n) : ∀ R ∈ (iterB G n).nx, ∀ v ∈ R, -9223372036854775808 ≤ v ∧ v ≤ 9223372036854775807 := fun R hR v hv => by
  obtain ⟨i, hi⟩ := List.mem_iff_getElem?.1 hR
  obtain ⟨k, hk⟩ := List.mem_iff_getElem?.1 hv
  obtain ⟨hI, ha, hl⟩ := h.inv
  have hrl := hI.rl i R hi
  have hil := (List.getElem?_eq_some_iff.1 hi).1
  have hkl := (List.getElem?_eq_some_iff.1 hk).1
  obtain ⟨s, hs⟩ : ∃ s, (symsX G)[k]? = some s := ⟨_, List.getElem?_eq_getElem (by omega)⟩
  have h2 := h.1.le
  rcases hI.to_ (by rw [ha]; have := (iterB_at G n).2; omega) hs hi hk with ⟨e, _⟩ | ⟨q, e, _, hq, _⟩
  · omega
  · omega
end Go.Proofs.X14
namespace Go.Proofs.YtjpbhbfklkipkaaDoor
open Go Go.RowKit Go.Lib
open X14 (It numX stepX closeX iterB BuiltOk BuiltMany)
set_option linter.unusedVariables false
set_option linter.unusedSimpArgs false
/-- Rows in a row: the cells hold slices. -/
def RowsAt (w : World) (v : Value) (n : Nat) (p : Nat → Value → Prop) : Prop := RowAt v n (fun i b off => ∃ u, w.cell? ⟨b, off + i, none⟩ = some u ∧ p i u)
theorem RowsAt.below {w w' : World} {v : Value} {n : Nat} {p q : Nat → Value → Prop} (h : RowsAt w v n p) (hb : Below w.heap.size w w') (hpq : ∀ i u, p i u → q i u) : RowsAt w' v n q := RowAt.mono h fun i b off ⟨u, h1, h2⟩ => ⟨u, cell_below hb h1, hpq i u h2⟩
theorem RowsAt.at_ {w : World} {o : Option Addr} {n n' c : Nat} {p : Nat → Value → Prop} (h : RowsAt w (.slice o n' c) n p) {k : Nat} (hk : k < n) : ∃ b off u, o = some ⟨b, off, none⟩ ∧ w.cell? ⟨b, off + k, none⟩ = some u ∧ p k u := by
  obtain ⟨o', c', e, _, hcs⟩ := h
  injection e with e1 e2 e3
  subst e1
  obtain ⟨b, off, rfl, hq⟩ := hcs (by omega)
  obtain ⟨u, h1, h2⟩ := hq k hk
  exact ⟨b, off, u, rfl, h1, h2⟩
theorem RowsAt.len {w : World} {v : Value} {n : Nat} {p : Nat → Value → Prop} (h : RowsAt w v n p) : ∃ o c, v = .slice o n c ∧ n ≤ 9223372036854775807 := by
  obtain ⟨o, c, e, h1, _⟩ := h
  exact ⟨o, c, e, h1⟩
/-- An automaton that is read. -/
def AutAt (w : World) (av : Value) (ker : List (List It)) (nx : List (List Int)) : Prop :=
  ∃ kv nv, av = .agg #[kv, nv] ∧ RowsAt w kv ker.length (fun i u => ItemsAt w u (ker.getD i [])) ∧ RowsAt w nv nx.length (fun i u => IntsAt w u (nx.getD i []))
theorem AutAt.below {w w' : World} {av : Value} {ker : List (List It)} {nx : List (List Int)} (h : AutAt w av ker nx) (hb : Below w.heap.size w w') : AutAt w' av ker nx := by
  obtain ⟨kv, nv, e, h1, h2⟩ := h
  exact ⟨kv, nv, e, h1.below hb fun i u hu => hu.below hb, h2.below hb fun i u hu => hu.mono hb⟩
def noAut : Value := .agg #[.slice none 0 0, .slice none 0 0]
def BuildP (G : GD) (w : World) (e : Ending) (w' : World) : Prop :=
  Below w.heap.size w w' ∧ ((validB G = false ∧ e = .returned (.tuple #[noAut, .int .i64 1])) ∨ (validB G = true ∧ ∃ n, (BuiltMany G n ∧ e = .returned (.tuple #[noAut, .int .i64 4])) ∨ (BuiltOk G n ∧ ∃ av, e = .returned (.tuple #[av, .int .i64 0]) ∧ AutAt w' av (iterB G n).ker (iterB G n).nx)))
/-- A row of slices of the call's own. -/
theorem own_rows {w : World} {B : Nat} {e : TypeId} {v : Value} {vs : List Value} {p : Nat → Value → Prop} (h : w.ownsRow B e 1 v vs.length vs) (hl : vs.length ≤ 9223372036854775807) (hp : ∀ (i : Nat) u, vs[i]? = some u → p i u) : RowsAt w v vs.length p := by
  obtain ⟨o, c, rfl⟩ := own_shape h
  refine ⟨o, c, rfl, hl, fun h0 => ?_⟩
  rcases h.2 with ⟨h1, h2⟩ | ⟨g, cap, cur, h1, hB, hg, h2, h3, h4, h5⟩
  · omega
  · injection h1 with h1 _ _
    subst h1
    refine ⟨g, 0, rfl, fun i hi => ?_⟩
    obtain ⟨u, hu⟩ : ∃ u, vs[i]? = some u := ⟨_, List.getElem?_eq_getElem hi⟩
    refine ⟨u, ?_, hp i u hu⟩
    rw [Nat.zero_add, Lib.cell_of_heap hg, ← Array.getElem?_toList, ← List.getElem?_take_of_lt (show i < vs.length * 1 by omega), h5, hu]
theorem intH_at {w : World} {g c : Nat} {l : List Int} (h : IntH w g l) (hl : l.length ≤ 9223372036854775807) (hr : ∀ x ∈ l, -9223372036854775808 ≤ x ∧ x ≤ 9223372036854775807) : IntsAt w (.slice (some ⟨g, 0, none⟩) l.length c) l := by
  refine ⟨⟨_, _, rfl, hl, fun _ => ⟨g, 0, rfl, fun i hi => ?_⟩⟩, hr⟩
  show w.cell? ⟨g, 0 + i, none⟩ = _
  rw [Nat.zero_add]
  refine h i _ ?_
  rw [List.getElem?_eq_getElem hi, List.getD_eq_getElem?_getD, List.getElem?_eq_getElem hi]
  rfl
theorem own_intH {w : World} {B g n c : Nat} {l : List Int} (h : w.ownsRow B 3 1 (.slice (some ⟨g, 0, none⟩) n c) n (zints l)) : IntH w g l := fun i x hi => by
  have hlen : l.length = n := by
    have := h.1
    unfold zints at this
    rw [List.length_map] at this
    omega
  rcases h.2 with ⟨h1, _⟩ | ⟨g', cap, cur, h1, hB, hg, h2, h3, h4, h5⟩
  · cases h1
  · injection h1 with h1 _ _
    injection h1 with h1
    injection h1 with h1
    subst h1
    have hil := (List.getElem?_eq_some_iff.1 hi).1
    rw [Lib.cell_of_heap hg, ← Array.getElem?_toList, ← List.getElem?_take_of_lt (show i < n * 1 by omega), h5]
    unfold zints
    rw [List.getElem?_map, hi]
    rfl
section
variable {B : Nat} {W w w' : World} {bA bN bM bG bR : Nat} {gc : Array Value} {kv nv : Value} {K : List KR} {N : List NR} {F : List (Nat × List It)} {rv : Value} {xs : List Value} {mi : Item}
/-- What is built, as an automaton that is read. -/
theorem aut_of (hrK : w.ownsRow B 28 1 kv (K.map kval).length (K.map kval)) (hrN : w.ownsRow B 58 1 nv (N.map nval).length (N.map nval)) (hfz : (frozI F).ok w) (hnf : (nfI N).ok w) (hin : ∀ q ∈ K, (q.1, q.2.2) ∈ F) (hK : K.length ≤ 1000000) (hN : N.length ≤ 1000000) (hk : ∀ k ∈ kers K, k.length ≤ 1000000) (hn : ∀ R ∈ nxts N, R.length ≤ 1000000 ∧ ∀ v ∈ R, -9223372036854775808 ≤ v ∧ v ≤ 9223372036854775807) : AutAt w (.agg #[kv, nv]) (kers K) (nxts N) := by
  refine ⟨kv, nv, rfl, ?_, ?_⟩
  · have := own_rows (p := fun i u => ItemsAt w u ((kers K).getD i [])) hrK (by rw [List.length_map]; omega) fun i u hu => by
      rw [List.getElem?_map] at hu
      cases hq : K[i]? with
      | none => rw [hq] at hu; cases hu
      | some q =>
        rw [hq] at hu
        obtain rfl : kval q = u := Option.some.inj hu
        have hm := List.mem_of_getElem? hq
        have e : (kers K).getD i [] = q.2.2 := X14.getD_get (by unfold kers; rw [List.getElem?_map, hq]; rfl)
        rw [e]
        exact rowH_items (hfz (q.1, q.2.2) (hin q hm)) (Nat.le_trans (hk q.2.2 (List.mem_map.2 ⟨q, hm, rfl⟩)) (by decide))
    rw [List.length_map] at this
    rw [kers_len]
    exact this
  · have := own_rows (p := fun i u => IntsAt w u ((nxts N).getD i [])) hrN (by rw [List.length_map]; omega) fun i u hu => by
      rw [List.getElem?_map] at hu
      cases hq : N[i]? with
      | none => rw [hq] at hu; cases hu
      | some q =>
        rw [hq] at hu
        obtain rfl : nval q = u := Option.some.inj hu
        have hm := List.mem_of_getElem? hq
        have e : (nxts N).getD i [] = q.2.2 := X14.getD_get (by unfold nxts; rw [List.getElem?_map, hq]; rfl)
        rw [e]
        have h2 := hn q.2.2 (List.mem_map.2 ⟨q, hm, rfl⟩)
        exact intH_at (hnf q hm) (Nat.le_trans h2.1 (by decide)) h2.2
    rw [List.length_map] at this
    unfold nxts
    rw [List.length_map]
    exact this
end
end Go.Proofs.YtjpbhbfklkipkaaDoor
