/- regex's matcher: what its places hold; which ones are come to. -/
import Derived.Test.YtndefngkkikkeaaMf
namespace Go.Proofs.X3
set_option linter.unusedVariables false
def okB (b : RX) : Prop := b = .empty ∨ ∃ x y z u, b = .bytes x y z u ∧ x < 2 ^ 64 ∧ y < 2 ^ 64 ∧ z < 2 ^ 64 ∧ u < 2 ^ 64
mutual
def wd : RX → Prop
  | .empty => True
  | .bytes x y z u => x < 2 ^ 64 ∧ y < 2 ^ 64 ∧ z < 2 ^ 64 ∧ u < 2 ^ 64
  | .cat l => wdL l
  | .alt l => wdL l
  | .star r => wd r
def wdL : List RX → Prop
  | [] => True
  | r :: l => wd r ∧ wdL l
end
def OkP (P : List Pl) : Prop := ∀ (k : Nat) (pl : Pl), P[k]? = some pl → okB pl.b
theorem OkP.app {P : List Pl} (h : OkP P) {pl : Pl} (hp : okB pl.b) : OkP (P ++ [pl]) := by
  intro k q hq
  by_cases hlt : k < P.length
  · rw [List.getElem?_append_left hlt] at hq; exact h k q hq
  · rw [List.getElem?_append_right (by omega)] at hq
    cases e : k - P.length with
    | zero => rw [e] at hq; simp at hq; subst hq; exact hp
    | succ n => rw [e] at hq; simp at hq
theorem OkP.add {P : List Pl} (h : OkP P) (a f : Nat) : OkP (addAlso P a f) := by
  intro k q hq
  by_cases e : k = a
  · subst e
    cases hP : P[k]? with
    | none => unfold addAlso at hq; rw [List.getElem?_modify, hP] at hq; cases hq
    | some y => rw [addAlso_at P hP] at hq; obtain rfl := Option.some.inj hq; exact h k y hP
  · rw [addAlso_ne P e] at hq; exact h k q hq
theorem OkP.set {P : List Pl} (h : OkP P) (a : Nat) (l : List Nat) : OkP (setAlso P a l) := by
  intro k q hq
  by_cases e : k = a
  · subst e
    cases hP : P[k]? with
    | none => unfold setAlso at hq; rw [List.getElem?_modify, hP] at hq; cases hq
    | some y => rw [setAlso_at P hP] at hq; obtain rfl := Option.some.inj hq; exact h k y hP
  · rw [setAlso_ne P e] at hq; exact h k q hq
mutual
theorem lay_ok : ∀ (r : RX) (b : Nat) (P : List Pl), wd r → OkP P → OkP (layX r b P).2
  | .empty, b, P, _, h => h
  | .bytes x y z u, b, P, hw, h => by simp only [layX]; exact h.app (.inr ⟨x, y, z, u, rfl, hw⟩)
  | .cat l, b, P, hw, h => layCat_ok l b P hw h
  | .alt l, b, P, hw, h => by simp only [layX]; exact layAlt_ok l P.length b (P ++ [none_]) hw (h.app (.inl rfl))
  | .star r, b, P, hw, h => by simp only [layX]; exact (lay_ok r P.length (P ++ [none_]) hw (h.app (.inl rfl))).set _ _
theorem layCat_ok : ∀ (l : List RX) (b : Nat) (P : List Pl), wdL l → OkP P → OkP (layCat l b P).2
  | [], b, P, _, h => h
  | r :: l, b, P, hw, h => by simp only [layCat]; exact lay_ok r _ _ hw.1 (layCat_ok l b P hw.2 h)
theorem layAlt_ok : ∀ (l : List RX) (a b : Nat) (P : List Pl), wdL l → OkP P → OkP (layAlt l a b P)
  | [], a, b, P, _, h => h
  | r :: l, a, b, P, hw, h => by simp only [layAlt]; exact layAlt_ok l a b _ hw.2 ((lay_ok r b P hw.1 h).add _ _)
end
theorem eps_lt {P : List Pl} (h : Bd P P.length) {p q : Nat} (he : Eps P p q) (hp : p < P.length) : q < P.length := by
  induction he with
  | refl => exact hp
  | step p q r pl h1 hq _ ih => exact ih ((h pl (List.mem_iff_getElem?.2 ⟨p, h1⟩)).2 q hq)
theorem reach_lt {P : List Pl} (h : Bd P P.length) {f p : Nat} {s : List UInt8} (hf : f < P.length) (hr : Reach P f s p) : p < P.length := by
  cases hr with
  | start _ he => exact eps_lt h he hf
  | step s x p' _ pl hp h1 hx hq => exact eps_lt h hq ((h pl (List.mem_iff_getElem?.2 ⟨p', h1⟩)).1)
end Go.Proofs.X3
namespace Go.Proofs.Ytndefngkkikkeaa
open Go Go.RowKit Go.Lib
open X3 (RX Pl)
set_option linter.unusedVariables false
mutual
theorem RepS.wd {S : Nat → Prop} {w : World} : ∀ {r : RX} {v : Value}, RepS S w r v → X3.wd r
  | _, _, .empty => trivial
  | _, _, .bytes x y z u hx hy hz hu => ⟨hx, hy, hz, hu⟩
  | _, _, .cat l g cap h hc hn hw h0 => RepLS.wd h
  | _, _, .alt l g cap h hc hn hw h0 => RepLS.wd h
  | _, _, .star r g cap h hc hn hw => (RepLS.wd h).1
theorem RepLS.wd {S : Nat → Prop} {w : World} {g : Nat} : ∀ {l : List RX} {j : Nat}, RepLS S w l g j → X3.wdL l
  | _, _, .nil _ _ => trivial
  | _, _, .cons r l _ j k x y z u kv h c0 c1 c2 c3 c4 c5 h2 => ⟨RepS.wd h, RepLS.wd h2⟩
end
theorem okB_rep {b : RX} (h : X3.okB b) (w : World) : RepS (fun _ => False) w b (nodeOf b) := by
  rcases h with rfl | ⟨x, y, z, u, rfl, h1, h2, h3, h4⟩
  · exact .empty
  · exact .bytes x y z u h1 h2 h3 h4

/-- What was laid, ready to be gathered. -/
theorem MRep.ready {B m : Nat} {w w' : World} {pg n cap : Nat} {AS : List Value} {P : List Pl} (h : MRep B m w (.slice (some ⟨pg, 0, none⟩) n cap) AS P) (hb : ∀ g, g < w.heap.size → g ≠ m → w'.heap[g]? = w.heap[g]?)
    (hbox : w'.heap[m]? = some (.cells #[.slice (some ⟨pg, 0, none⟩) n cap, .slice (some ⟨w.heap.size, 0, none⟩) P.length P.length, .int .i64 0] 63 (0, 0)))
    (hmk : w'.heap[w.heap.size]? = some (.cells (ints (List.replicate P.length 0)).toArray 3 (0, 0))) :
    MS w.heap.size m pg cap w.heap.size P AS (List.replicate P.length 0) 0 w' := by
  have hml : m < w.heap.size := (Array.getElem?_eq_some_iff.1 h.box).1
  have hpl := (h.row.lt pg rfl).2
  have hpm : pg ≠ m := fun e => h.apm (congrArg some e)
  have hn : n = P.length ∧ n ≤ cap := by
    rcases h.row.2 with ⟨hv, _⟩ | ⟨g, cap', cur, hv, _, _, hc, _⟩
    · cases hv
    · injection hv with h1 h2 h3; subst h3; exact ⟨h2, by omega⟩
  obtain ⟨rfl, hc⟩ := hn
  refine ⟨hbox, fun k pl av h1 h2 j hj => ?_, h.lenA, fun k pl av h1 h2 => ?_, hmk, by simp, hc, hml, hpl, by omega, by omega⟩
  · rw [World.cell?_of_block (w := w) (hb pg hpl hpm)]
    exact (h.cellat h1 h2).1 j hj
  · rcases (h.also k pl av h1 h2).2 with ⟨rfl, h3⟩ | ⟨g, c, cur, rfl, hB, hg, hcc, hcm, hs, ht⟩
    · exact .inl ⟨List.eq_nil_of_length_eq_zero h3, rfl⟩
    · have hgl := (Array.getElem?_eq_some_iff.1 hg).1
      have hgm := (h.ap1 k _ g h2 rfl).1
      refine .inr ⟨g, c, rfl, hgl, by omega, fun j q hq => ?_⟩
      rw [World.cell?_of_block (w := w) (hb g hgl hgm), Lib.cell_of_heap hg]
      have hlt : j < pl.also.length := (List.getElem?_eq_some_iff.1 hq).1
      have e : (cur.toList.take (pl.also.length * 1))[j]? = some (.int .i64 (q : Int)) := by rw [ht]; exact ints_at hq
      rw [List.getElem?_take, if_pos (by omega), Array.getElem?_toList] at e
      exact e

end Go.Proofs.Ytndefngkkikkeaa
