/- A grammar with one production more, as it lies in memory. -/
import Derived.Laws.AppendOwn
import Derived.Deep.RegionHeld3
import Derived.OneCell
import Derived.Test.YtjpbhbfklkipkaaDoorPp
import Derived.Test.YtjpbhbfklkipkaaDoorGd
namespace Go.Proofs.YtjpbhbfklkipkaaDoor
open Go Go.RowKit Go.Lib Go.Joins

/-- A grammar with one production more. -/
def moreG (G : GD) (p : PD) : GD := ⟨G.terms, G.over, G.sorts, G.prods ++ [p], G.start⟩

/-- The cells of productions, side by side. -/
def pcell (l : List PD) (rv : Nat → Value) (j : Nat) : Value :=
  if j % 4 = 0 then .string (l.getD (j / 4) default).lab else if j % 4 = 1 then .int .i64 (l.getD (j / 4) default).sort else if j % 4 = 2 then rv (j / 4) else .int .i64 (l.getD (j / 4) default).cls
def pcells (l : List PD) (rv : Nat → Value) : List Value := (List.range (l.length * 4)).map (pcell l rv)
theorem pcells_length (l : List PD) (rv : Nat → Value) : (pcells l rv).length = l.length * 4 := by simp [pcells]

theorem prods_news {w : World} {ad : Addr} {n c : Nat} {l : List PD} {rv : Nat → Value} (h : ProdsAt w (.slice (some ad) n c) l rv) : ∀ j u, (pcells l rv)[j]? = some u → w.cell? (ad.add j) = some u := by
  intro j u hj
  obtain ⟨a, c', e, _, hc⟩ := h
  cases e
  have hjl : j < l.length * 4 := by
    rcases Nat.lt_or_ge j (l.length * 4) with h1 | h1
    · exact h1
    · rw [List.getElem?_eq_none (by rw [pcells_length]; exact h1)] at hj; cases hj
  have hu : pcell l rv j = u := by
    unfold pcells at hj
    rw [List.getElem?_map, List.getElem?_range hjl] at hj
    exact Option.some.inj hj
  obtain ⟨b, off, e, hcc⟩ := hc (by omega)
  cases e
  obtain ⟨h0, h1, h2, h3⟩ := hcc (j / 4) (by omega)
  rw [Go.WideShapes.add_plain, ← hu]
  unfold pcell
  have h4 := Nat.mod_lt j (show 0 < 4 by decide)
  by_cases e0 : j % 4 = 0
  · rw [if_pos e0, show off + j = off + j / 4 * 4 by omega]; exact h0
  rw [if_neg e0]
  by_cases e1 : j % 4 = 1
  · rw [if_pos e1, show off + j = off + j / 4 * 4 + 1 by omega]; exact h1
  rw [if_neg e1]
  by_cases e2 : j % 4 = 2
  · rw [if_pos e2, show off + j = off + j / 4 * 4 + 2 by omega]; exact h2
  · rw [if_neg e2, show off + j = off + j / 4 * 4 + 3 by omega]; exact h3

theorem pcells_one {w : World} {l : List PD} {rv : Nat → Value} (h : ∀ i, i < l.length → IntsAt w (rv i) (l.getD i default).rs) : ∀ u ∈ pcells l rv, u.oneCell' = true := by
  intro u hu
  obtain ⟨j, hj, rfl⟩ := List.mem_map.1 hu
  have hj' : j < l.length * 4 := by simpa using hj
  unfold pcell
  split
  · rfl
  split
  · rfl
  split
  · obtain ⟨⟨a, c, e, _⟩, _⟩ := h (j / 4) (by omega)
    rw [e]; rfl
  · rfl

theorem cell_far {w : World} {p a : Addr} {v x : Value} (h : w.cell? a = some v) (hne : p.block ≠ a.block) : (w.setCell p x).cell? a = some v := (World.cell?_setCell_far _ _ _ _ hne).trans h
theorem four_at {w : World} {g : Nat} {a b c d u : Value} {j : Nat} (hj : [a, b, c, d][j]? = some u) (h : w.heap[g]? = some (.cells #[a, b, c, d] 64)) : w.cell? ((⟨g, 0, none⟩ : Addr).add j) = some u := by
  rw [Go.WideShapes.add_plain, cell_of_block h, Nat.zero_add]
  simpa using hj

theorem more_at {w W' : World} {gv tv ov sv pv : Value} {G : GD} {tf : Nat → Nat → Value} {rv : Nat → Value} (h : GrAt w gv G tv ov sv pv tf rv) (hb : Below w.heap.size w W') {base cap g : Nat} {p : PD} {rp : Value}
    (own : W'.ownsRow base 64 4 (.slice (some ⟨g, 0, none⟩) (G.prods.length + 1) cap) (G.prods.length + 1) (pcells G.prods rv ++ [.string p.lab, .int .i64 p.sort, rp, .int .i64 p.cls])) (hn : G.prods.length + 1 ≤ 9223372036854775807)
    (hp : IntsAt w rp p.rs) (hc : ∀ a n c, rp = .slice a n c → n ≤ c) :
    GrAt W' (.agg #[tv, ov, sv, .slice (some ⟨g, 0, none⟩) (G.prods.length + 1) cap, .int .i64 G.start]) (moreG G p) tv ov sv (.slice (some ⟨g, 0, none⟩) (G.prods.length + 1) cap) tf (fun i => if i < G.prods.length then rv i else rp) := by
  have hl : (G.prods ++ [p]).length = G.prods.length + 1 := by simp
  have hmid : ∀ i, i < G.prods.length → (G.prods ++ [p]).getD i default = G.prods.getD i default := fun i hi => by
    simp [List.getD_eq_getElem?_getD, List.getElem?_append_left hi]
  have hend : (G.prods ++ [p]).getD G.prods.length default = p := by simp [List.getD_eq_getElem?_getD]
  refine ⟨rfl, h.terms.mono hb, h.over.mono hb, h.sorts.mono hb, ?_, ?_, ?_⟩
  · refine ⟨some ⟨g, 0, none⟩, cap, by show _ = Value.slice _ (G.prods ++ [p]).length _; rw [hl], by show (G.prods ++ [p]).length ≤ _; rw [hl]; exact hn, fun _ => ⟨g, 0, rfl, fun i hi => ?_⟩⟩
    replace hi : i < G.prods.length + 1 := by
      have : i < (G.prods ++ [p]).length := hi
      rwa [hl] at this
    obtain ⟨_, ⟨e, _⟩ | ⟨g', cap', cur, e, _, hg, _, _, _, ht⟩⟩ := own
    · cases e
    cases e
    have hcell : ∀ k, k < (G.prods.length + 1) * 4 → W'.cell? ⟨g, 0 + k, none⟩ = (pcells G.prods rv ++ [.string p.lab, .int .i64 p.sort, rp, .int .i64 p.cls])[k]? := fun k hk => by
      rw [cell_of_block hg, Nat.zero_add, ← Array.getElem?_toList, ← ht, List.getElem?_take_of_lt hk]
    show W'.cell? ⟨g, 0 + i * 4, none⟩ = some (.string ((G.prods ++ [p]).getD i default).lab) ∧ W'.cell? ⟨g, 0 + i * 4 + 1, none⟩ = some (.int .i64 ((G.prods ++ [p]).getD i default).sort) ∧
      W'.cell? ⟨g, 0 + i * 4 + 2, none⟩ = some (if i < G.prods.length then rv i else rp) ∧ W'.cell? ⟨g, 0 + i * 4 + 3, none⟩ = some (.int .i64 ((G.prods ++ [p]).getD i default).cls)
    rw [Nat.add_assoc, Nat.add_assoc, Nat.add_assoc, hcell _ (by omega), hcell _ (by omega), hcell _ (by omega), hcell _ (by omega)]
    rcases Nat.lt_or_ge i G.prods.length with h1 | h1
    · rw [if_pos h1, hmid i h1]
      have hpc : ∀ k, k < 4 → (pcells G.prods rv ++ [.string p.lab, .int .i64 p.sort, rp, .int .i64 p.cls])[i * 4 + k]? = some (pcell G.prods rv (i * 4 + k)) := fun k hk => by
        rw [List.getElem?_append_left (by rw [pcells_length]; omega)]
        unfold pcells
        rw [List.getElem?_map, List.getElem?_range (by omega)]
        rfl
      have h0 := hpc 0 (by omega)
      rw [Nat.add_zero] at h0
      rw [h0, hpc 1 (by omega), hpc 2 (by omega), hpc 3 (by omega)]
      unfold pcell
      rw [show (i * 4) % 4 = 0 by omega, show (i * 4) / 4 = i by omega, show (i * 4 + 1) % 4 = 1 by omega, show (i * 4 + 1) / 4 = i by omega, show (i * 4 + 2) % 4 = 2 by omega, show (i * 4 + 2) / 4 = i by omega, show (i * 4 + 3) % 4 = 3 by omega, show (i * 4 + 3) / 4 = i by omega]
      exact ⟨rfl, rfl, rfl, rfl⟩
    · obtain rfl : i = G.prods.length := by omega
      rw [if_neg (by omega), hend]
      have hpc : ∀ k, (pcells G.prods rv ++ [.string p.lab, .int .i64 p.sort, rp, .int .i64 p.cls])[G.prods.length * 4 + k]? = [Value.string p.lab, .int .i64 p.sort, rp, .int .i64 p.cls][k]? := fun k => by
        rw [List.getElem?_append_right (by rw [pcells_length]; omega), pcells_length]
        congr 1
        omega
      have h0 := hpc 0
      rw [Nat.add_zero] at h0
      rw [h0, hpc 1, hpc 2, hpc 3]
      exact ⟨rfl, rfl, rfl, rfl⟩
  · intro i hi
    replace hi : i < G.prods.length + 1 := by
      have : i < (G.prods ++ [p]).length := hi
      rwa [hl] at this
    show IntsAt W' (if i < G.prods.length then rv i else rp) ((G.prods ++ [p]).getD i default).rs
    rcases Nat.lt_or_ge i G.prods.length with h1 | h1
    · rw [if_pos h1, hmid i h1]; exact (h.rights i h1).mono hb
    · obtain rfl : i = G.prods.length := by omega
      rw [if_neg (by omega), hend]; exact hp.mono hb
  · intro i hi a n c e
    have e' : (if i < G.prods.length then rv i else rp) = .slice a n c := e
    split at e'
    · rename_i h1; exact h.caps i h1 a n c e'
    · exact hc a n c e'

end Go.Proofs.YtjpbhbfklkipkaaDoor
