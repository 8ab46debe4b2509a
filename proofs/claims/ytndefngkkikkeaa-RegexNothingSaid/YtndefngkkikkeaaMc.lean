/- regex's matcher: what a place tells, told anew. -/
import Derived.Test.YtndefngkkikkeaaMb
namespace Go.Proofs.Ytndefngkkikkeaa
open Go Go.RowKit Go.Lib
open X3 (RX Pl)
set_option linter.unusedVariables false
set_option linter.unusedSimpArgs false

theorem owns_set {w : World} {B : Nat} {e : TypeId} {sz : Nat} {pg cap n : Nat} {xs : List Value} (h : w.ownsRow B e sz (.slice (some ⟨pg, 0, none⟩) n cap) n xs) (j : Nat) (u : Value) :
    (w.setCell ⟨pg, j, none⟩ u).ownsRow B e sz (.slice (some ⟨pg, 0, none⟩) n cap) n (xs.set j u) := by
  refine ⟨by rw [List.length_set]; exact h.1, ?_⟩
  rcases h.2 with ⟨hn, _⟩ | ⟨g, cap', cur, hv, hB, hg, hc, hcm, hs, ht⟩
  · cases hn
  · injection hv with h1 h2 h3
    have h1' : pg = g := by injection h1 with h1; injection h1
    subst h1' h3
    refine .inr ⟨pg, cap, cur.setIfInBounds j u, rfl, hB, heap_setCell_same w pg j cur e u hg, hc, hcm, by simp [hs], ?_⟩
    rw [← ht, Array.toList_setIfInBounds, List.take_set]

theorem cellsP_set : ∀ (P : List Pl) (AS : List Value) (k : Nat) (l : List Nat) (av : Value), AS.length = P.length → k < P.length →
    cellsP (P.modify k fun pl => { pl with also := l }) (AS.set k av) = (cellsP P AS).set (k * 8 + 7) av
  | p :: P, a :: AS, 0, l, av, h, hk => by
    obtain ⟨k', x, y, z, u, hbc, -⟩ := bcs_shape p.b
    simp [cellsP, plc, hbc]
  | p :: P, a :: AS, k + 1, l, av, h, hk => by
    simp only [List.modify_succ_cons, List.set_cons_succ, cellsP]
    rw [cellsP_set P AS k l av (by simpa using h) (by simpa using hk), List.set_append_right _ _ (by rw [plc_len]; omega), plc_len]
    congr 2
    omega
  | [], _, k, l, av, h, hk => by simp at hk
  | p :: P, [], _, _, _, h, _ => by simp at h

theorem MRep.restored {B m : Nat} {w1 w2 : World} {pg n cap k : Nat} {av0 av : Value} {AS : List Value} {P : List Pl} {l : List Nat} (h : MRep B m w1 (.slice (some ⟨pg, 0, none⟩) n cap) AS P)
    (hk : AS[k]? = some av0) (hg : w1.grownBy w2 av0.ownBlock) (hown : w2.ownsRow B 3 1 av l.length (l.map fun (q : Nat) => Value.int .i64 (q : Int)))
    (hat : av.ownBlock = av0.ownBlock ∨ ∃ g, av.ownBlock = some g ∧ w1.heap.size ≤ g) :
    MRep B m (w2.setCell ⟨pg, k * 8 + 7, none⟩ av) (.slice (some ⟨pg, 0, none⟩) n cap) (AS.set k av) (P.modify k fun pl => { pl with also := l }) := by
  have hkl : k < P.length := by rw [← h.lenA]; exact (List.getElem?_eq_some_iff.1 hk).1
  have hn : n = P.length := by
    rcases h.row.2 with ⟨hv, _⟩ | ⟨g, cap', cur, hv, _⟩
    · cases hv
    · injection hv
  subst hn
  have hpgl : pg < w1.heap.size := (h.row.lt pg rfl).2
  have hml : m < w1.heap.size := (Array.getElem?_eq_some_iff.1 h.box).1
  have hpm : pg ≠ m := fun e => h.apm (congrArg some e)
  have h0 : ∀ g, av0.ownBlock = some g → g ≠ m ∧ g ≠ pg := fun g hgo => ⟨(h.ap1 k av0 g hk hgo).1, fun e => (h.ap1 k av0 g hk hgo).2 (congrArg some e.symm)⟩
  have hpb : w2.heap[pg]? = w1.heap[pg]? := hg.block pg hpgl (fun e => (h0 pg e.symm).2 rfl)
  have hmb : w2.heap[m]? = w1.heap[m]? := hg.block m hml (fun e => (h0 m e.symm).1 rfl)
  have hav : ∀ g, av.ownBlock = some g → g ≠ m ∧ g ≠ pg := by
    intro g hgo
    rcases hat with e | ⟨g', e, hl⟩
    · exact h0 g (by rw [← e]; exact hgo)
    · rw [e] at hgo; obtain rfl := Option.some.inj hgo; exact ⟨by omega, by omega⟩
  have hrow : w2.ownsRow B 60 8 (.slice (some ⟨pg, 0, none⟩) P.length cap) P.length (cellsP P AS) := owns_kept h.row (fun g hgo => by obtain rfl := Option.some.inj hgo; exact hpb)
  have hset : ∀ (i : Nat) (a : Value), (AS.set k av)[i]? = some a → (i = k ∧ a = av) ∨ (i ≠ k ∧ AS[i]? = some a) := by
    intro i a hi
    by_cases e : i = k
    · subst e
      rw [List.getElem?_set_self (by rw [h.lenA]; exact hkl)] at hi
      exact .inl ⟨rfl, (Option.some.inj hi).symm⟩
    · rw [List.getElem?_set_ne (Ne.symm e)] at hi
      exact .inr ⟨e, hi⟩
  have hpi : ∀ (i : Nat) (a : Value), AS[i]? = some a → ∃ pl, P[i]? = some pl := fun i a hi => ⟨_, List.getElem?_eq_getElem (by rw [← h.lenA]; exact (List.getElem?_eq_some_iff.1 hi).1)⟩
  refine ⟨?_, h.mB, ?_, by simp [h.lenA], ?_, ?_, ?_, h.apm⟩
  · exact (Below.heap_setCell w2 ⟨pg, k * 8 + 7, none⟩ av m (Ne.symm hpm)).trans (hmb.trans h.box)
  · rw [cellsP_set P AS k l av h.lenA hkl]
    have : (P.modify k fun pl => { pl with also := l }).length = P.length := by simp
    rw [this]
    exact owns_set hrow _ _
  · intro i pl a hp hi
    rcases hset i a hi with ⟨rfl, rfl⟩ | ⟨hne, hi2⟩
    · obtain ⟨pl0, hp0⟩ := hpi i av0 hk
      rw [List.getElem?_modify, hp0] at hp
      simp at hp
      subst hp
      exact owns_kept hown (fun g hgo => Below.heap_setCell w2 ⟨pg, i * 8 + 7, none⟩ a g (hav g hgo).2)
    · have hp2 : P[i]? = some pl := by
        rw [List.getElem?_modify] at hp
        simp only [if_neg (Ne.symm hne)] at hp
        cases hP : P[i]? with
        | none => rw [hP] at hp; cases hp
        | some y => rw [hP] at hp; simpa using hp
      have ho := h.also i pl a hp2 hi2
      refine owns_kept ho (fun g hgo => ?_)
      have h1 := h.ap1 i a g hi2 hgo
      refine (Below.heap_setCell w2 ⟨pg, k * 8 + 7, none⟩ av g (fun e => h1.2 (congrArg some e.symm))).trans (hg.block g (ho.lt g hgo).2 (fun e => hne (h.ap2 i k a av0 g hi2 hk hgo e.symm)))
  · intro i a g hi hgo
    rcases hset i a hi with ⟨rfl, rfl⟩ | ⟨hne, hi2⟩
    · exact ⟨(hav g hgo).1, fun e => (hav g hgo).2 (Option.some.inj e).symm⟩
    · exact h.ap1 i a g hi2 hgo
  · intro i j a c g hi hj ha hc
    have key : ∀ (i : Nat) (a : Value), i ≠ k → AS[i]? = some a → a.ownBlock = some g → av.ownBlock = some g → False := by
      intro i a hne hi2 ha hv
      rcases hat with e | ⟨g', e, hl⟩
      · exact hne (h.ap2 i k a av0 g hi2 hk ha (by rw [← e]; exact hv))
      · rw [e] at hv; obtain rfl := Option.some.inj hv
        obtain ⟨pl, hp⟩ := hpi i a hi2
        have := ((h.also i pl a hp hi2).lt g' ha).2
        omega
    rcases hset i a hi with ⟨rfl, rfl⟩ | ⟨hne, hi2⟩
    · rcases hset j c hj with ⟨rfl, rfl⟩ | ⟨hne2, hj2⟩
      · rfl
      · exact (key j c hne2 hj2 hc ha).elim
    · rcases hset j c hj with ⟨rfl, rfl⟩ | ⟨hne2, hj2⟩
      · exact (key i a hne hi2 ha hc).elim
      · exact h.ap2 i j a c g hi2 hj2 ha hc

theorem keepS_B {S : Nat → Prop} {B : Nat} {w w' : World} (hS : ∀ g, S g → g < B) (h : Below B w w') : KeepS S w w' := ⟨h.size, fun g hg _ => h.block g (hS g hg)⟩

end Go.Proofs.Ytndefngkkikkeaa
