/- regex: six cells at once; a row of regexes that the call makes. -/
import Derived.Test.YtndefngkkikkeaaRl
namespace Go.Proofs.Ytndefngkkikkeaa
open Go Go.RowKit Go.Lib
set_option linter.unusedVariables false

theorem cells6 {w : World} {k : Nat} {t : TypeId} {a0 a1 a2 a3 a4 a5 : Value} (h : w.heap[k]? = some (.cells #[a0, a1, a2, a3, a4, a5] t (0, 0))) :
    w.cell? ⟨k, 0, none⟩ = some a0 ∧ w.cell? ⟨k, 1, none⟩ = some a1 ∧ w.cell? ⟨k, 2, none⟩ = some a2 ∧ w.cell? ⟨k, 3, none⟩ = some a3 ∧ w.cell? ⟨k, 4, none⟩ = some a4 ∧ w.cell? ⟨k, 5, none⟩ = some a5 := by
  refine ⟨?_, ?_, ?_, ?_, ?_, ?_⟩ <;> (rw [Lib.cell_of_heap h]; rfl)
theorem frozen6 {w : World} {k : Nat} {t : TypeId} {cs : Array Value} (h : w.heap[k]? = some (.cells cs t (0, 0))) :
    w.frozen? ⟨k, 0, none⟩ = false ∧ w.frozen? ⟨k, 1, none⟩ = false ∧ w.frozen? ⟨k, 2, none⟩ = false ∧ w.frozen? ⟨k, 3, none⟩ = false ∧ w.frozen? ⟨k, 4, none⟩ = false ∧ w.frozen? ⟨k, 5, none⟩ = false :=
  ⟨Lib.frozen_of_heap h 0, Lib.frozen_of_heap h 1, Lib.frozen_of_heap h 2, Lib.frozen_of_heap h 3, Lib.frozen_of_heap h 4, Lib.frozen_of_heap h 5⟩

/-- Six cells of a block are written. -/
theorem six {w : World} {k : Nat} {t : TypeId} {b0 b1 b2 b3 b4 b5 : Value} (h : w.heap[k]? = some (.cells #[b0, b1, b2, b3, b4, b5] t (0, 0))) (a0 a1 a2 a3 a4 a5 : Value) :
    ∃ w8, ((((((w.setCell ⟨k, 0, none⟩ a0).setCell ⟨k, 1, none⟩ a1).setCell ⟨k, 2, none⟩ a2).setCell ⟨k, 3, none⟩ a3).setCell ⟨k, 4, none⟩ a4).setCell ⟨k, 5, none⟩ a5) = w8 ∧
      w8.heap[k]? = some (.cells #[a0, a1, a2, a3, a4, a5] t (0, 0)) ∧ Gr k w w8 ∧ w8.heap.size = w.heap.size := by
  refine ⟨_, rfl, ?_, ?_, ?_⟩
  · have z0 := heap_setCell_same w k 0 _ t a0 h
    have z1 := heap_setCell_same _ k 1 _ t a1 z0
    have z2 := heap_setCell_same _ k 2 _ t a2 z1
    have z3 := heap_setCell_same _ k 3 _ t a3 z2
    have z4 := heap_setCell_same _ k 4 _ t a4 z3
    exact heap_setCell_same _ k 5 _ t a5 z4
  · exact gr_set (gr_set (gr_set (gr_set (gr_set (gr_set (Gr.refl k w) 0 _) 1 _) 2 _) 3 _) 4 _) 5 _
  · simp

theorem one5 {w : World} {k : Nat} {t : TypeId} {b0 b1 b2 b3 b4 b5 : Value} (h : w.heap[k]? = some (.cells #[b0, b1, b2, b3, b4, b5] t (0, 0))) (a5 : Value) :
    ∃ w8, (w.setCell ⟨k, 5, none⟩ a5) = w8 ∧ w8.heap[k]? = some (.cells #[b0, b1, b2, b3, b4, a5] t (0, 0)) ∧ Gr k w w8 ∧ w8.heap.size = w.heap.size :=
  ⟨_, rfl, heap_setCell_same _ k 5 _ t a5 h, gr_set (Gr.refl k w) 5 _, by simp⟩

theorem below_fresh {B k : Nat} {w w3 w8 : World} (h : Below B w w3) (hB : B ≤ w3.heap.size) (hk : B ≤ k) (g : Gr k w3 w8) : Below B w w8 :=
  h.grown g hB (fun j e => by have := Option.some.inj e; omega)
theorem gr_fresh {b k : Nat} {w w3 w8 : World} (h : Gr b w w3) (hk : w.heap.size ≤ k) (g : Gr k w3 w8) : Gr b w w8 :=
  ⟨g.os.trans h.os, g.tape.trans h.tape, g.output.trans h.output, Nat.le_trans h.size g.size, fun i hi hne =>
    (g.block i (Nat.lt_of_lt_of_le hi h.size) (fun e => by have := Option.some.inj e; omega)).trans (h.block i hi hne)⟩

/-- Some regexes lie as some values. -/
inductive Reps (S : Nat → Prop) (w : World) : List X3.RX → List Value → Prop
  | nil : Reps S w [] []
  | cons (r : X3.RX) (l : List X3.RX) (v : Value) (vs : List Value) (h : RepS S w r v) (h2 : Reps S w l vs) : Reps S w (r :: l) (v :: vs)
def ncs : Value → List Value
  | .agg a => a.toList
  | _ => []
theorem Reps.kept {S : Nat → Prop} {w w' : World} (hg : KeepS S w w') {l : List X3.RX} {vs : List Value} (h : Reps S w l vs) : Reps S w' l vs := by
  induction h with
  | nil => exact .nil
  | cons r l v vs h h2 ih => exact .cons r l v vs (h.kept hg) ih
theorem Reps.monoS {S S' : Nat → Prop} {w : World} (hB : ∀ g, S g → g < w.heap.size → S' g) {l : List X3.RX} {vs : List Value} (h : Reps S w l vs) : Reps S' w l vs := by
  induction h with
  | nil => exact .nil
  | cons r l v vs h h2 ih => exact .cons r l v vs (h.monoS hB) ih
theorem Reps.push {S : Nat → Prop} {w : World} {l : List X3.RX} {vs : List Value} {r : X3.RX} {v : Value} (h : Reps S w l vs) (h2 : RepS S w r v) : Reps S w (l ++ [r]) (vs ++ [v]) := by
  induction h with
  | nil => exact .cons r [] v [] h2 .nil
  | cons r' l v' vs h _ ih => exact .cons r' _ v' _ h ih

/-- A row of regexes that the call makes: a slice, its block, and what lies elsewhere. -/
def RowOf (B : Nat) (w : World) (v : Value) (L : List X3.RX) : Prop :=
  ∃ VS, Reps (fun x => B ≤ x ∧ some x ≠ v.ownBlock) w L VS ∧ w.ownsRow B 28 6 v L.length (VS.flatMap ncs)
theorem RowOf.nil (B : Nat) (w : World) : RowOf B w (.slice none 0 0) [] := ⟨[], .nil, World.ownsRow_nil _ _ _ _⟩
theorem RowOf.lt {B : Nat} {w : World} {v : Value} {L : List X3.RX} (h : RowOf B w v L) : ∀ k, v.ownBlock = some k → B ≤ k ∧ k < w.heap.size := by
  obtain ⟨VS, _, h2⟩ := h
  exact h2.lt
theorem owns_below {w w' : World} {B : Nat} {v : Value} {n : Nat} {xs : List Value} (h : w.ownsRow B 28 6 v n xs) (hb : Below w.heap.size w w') : w'.ownsRow B 28 6 v n xs := by
  refine ⟨h.1, ?_⟩
  rcases h.2 with hn | ⟨g, cap, cur, rfl, hB, hg, rest⟩
  · exact .inl hn
  · exact .inr ⟨g, cap, cur, rfl, hB, (Below.block hb g (Array.getElem?_eq_some_iff.1 hg).1).trans hg, rest⟩
theorem RowOf.below {B : Nat} {w w' : World} {v : Value} {L : List X3.RX} (h : RowOf B w v L) (hb : Below w.heap.size w w') : RowOf B w' v L := by
  obtain ⟨VS, h1, h2⟩ := h
  exact ⟨VS, h1.kept (keepS_below hb), owns_below h2 hb⟩
theorem RowOf.gr {B b : Nat} {w w' : World} {v : Value} {L : List X3.RX} (h : RowOf B w v L) (hb : b < B) (hg : Gr b w w') : RowOf B w' v L := by
  obtain ⟨VS, h1, h2⟩ := h
  refine ⟨VS, h1.kept (keepS_gr (b := b) (fun x => absurd x.1 (by omega)) hg), h2.kept hg ?_⟩
  rcases hv : v.ownBlock with _ | g
  · exact .inl rfl
  · right; intro e; have := Option.some.inj e; have := (h2.lt g hv).1; omega

theorem row_push {B : Nat} {w1 w2 w3 w4 : World} {v v' : Value} {L : List X3.RX} {VS : List Value} {r : X3.RX} {nv : Value}
    (h1 : Reps (fun x => B ≤ x ∧ some x ≠ v.ownBlock) w2 L VS) (hlt : ∀ k, v.ownBlock = some k → B ≤ k ∧ k < w1.heap.size) (hB : B ≤ w1.heap.size)
    (hr : Rep w1.heap.size w2 r nv) (h23 : Below w2.heap.size w2 w3) (hown : w4.ownsRow B 28 6 v' (L.length + 1) (VS.flatMap ncs ++ ncs nv))
    (hgrow : w3.grownBy w4 v.ownBlock) (hat : v'.ownBlock = v.ownBlock ∨ v'.ownBlock = some w3.heap.size) : RowOf B w4 v' (L ++ [r]) := by
  refine ⟨VS ++ [nv], ?_, ?_⟩
  · have h2 : Reps (fun x => B ≤ x ∧ some x ≠ v.ownBlock) w2 (L ++ [r]) (VS ++ [nv]) := h1.push (hr.monoS (fun g hg _ => ⟨by have : w1.heap.size ≤ g := hg; omega, fun e => by
      have := (hlt g e.symm).2
      have : w1.heap.size ≤ g := hg
      omega⟩))
    have h3 := h2.kept (keepS_below h23)
    have h3' : Reps (fun x => (B ≤ x ∧ some x ≠ v.ownBlock) ∧ x < w3.heap.size) w3 (L ++ [r]) (VS ++ [nv]) := h3.monoS (fun g hg hl => ⟨hg, hl⟩)
    have h4 : Reps (fun x => (B ≤ x ∧ some x ≠ v.ownBlock) ∧ x < w3.heap.size) w4 (L ++ [r]) (VS ++ [nv]) := h3'.kept ⟨hgrow.size, fun g hg hl => hgrow.block g hl hg.1.2⟩
    exact h4.monoS (fun g hg _ => ⟨hg.1.1, by
      rcases hat with e | e
      · rw [e]; exact hg.1.2
      · rw [e]; intro e2; have := Option.some.inj e2; omega⟩)
  · rw [List.flatMap_append, List.length_append]
    simpa using hown

theorem RowOf.shape {B : Nat} {w : World} {v : Value} {L : List X3.RX} (h : RowOf B w v L) (h0 : L ≠ []) :
    ∃ g cap, v = .slice (some ⟨g, 0, none⟩) L.length cap ∧ B ≤ g ∧ g < w.heap.size ∧ L.length ≤ cap ∧ RepL B w L g 0 := by
  obtain ⟨VS, h1, h2⟩ := h
  have hc : ∀ {g : Nat}, v.ownBlock = some g → ∀ j u, (VS.flatMap ncs)[j]? = some u → w.cell? ((⟨g, 0, none⟩ : Addr).add j) = some u := fun hv => h2.cells hv
  rcases h2.2 with ⟨_, h3⟩ | ⟨g, cap, cur, rfl, hB, hg, hcp, hcm, hs, ht⟩
  · exact absurd (List.eq_nil_of_length_eq_zero h3) h0
  · refine ⟨g, cap, rfl, hB, (Array.getElem?_eq_some_iff.1 hg).1, hcp, ?_⟩
    have hcell : ∀ q u, (VS.flatMap ncs)[q]? = some u → w.cell? ⟨g, 6 * 0 + q, none⟩ = some u := by
      intro q u hu
      have := hc (g := g) rfl q u hu
      have e : (⟨g, 0, none⟩ : Addr).add q = ⟨g, 6 * 0 + q, none⟩ := by unfold Addr.add; split <;> simp_all
      rwa [e] at this
    clear hc h2 ht hs hcp hcm h0
    generalize 0 = j at hcell ⊢
    clear hg
    induction h1 generalizing j with
    | nil => exact .nil _ _
    | cons r l v vs h hh ih =>
      obtain ⟨kd, x, y, z, u, o, n, c, rfl⟩ := h.shape
      refine .cons r l g j kd x y z u _ (h.monoS (fun g hg _ => hg.1)) (hcell 0 _ rfl) (hcell 1 _ rfl) (hcell 2 _ rfl) (hcell 3 _ rfl) (hcell 4 _ rfl) (hcell 5 _ rfl) (ih (j + 1) ?_)
      intro q u' hu'
      have := hcell (q + 6) u' (by
        rw [List.flatMap_cons, List.getElem?_append_right (by simp [ncs])]
        simpa [ncs] using hu')
      rw [show 6 * (j + 1) + q = 6 * j + (q + 6) by omega]
      exact this

theorem RowOf.sl {B : Nat} {w : World} {v : Value} {L : List X3.RX} (h : RowOf B w v L) : ∃ o c, v = .slice o L.length c := by
  obtain ⟨VS, _, h2⟩ := h
  rcases h2.2 with ⟨rfl, h3⟩ | ⟨g, cap, cur, rfl, _⟩
  · rw [h3]; exact ⟨_, _, rfl⟩
  · exact ⟨_, _, rfl⟩
theorem info28 : (Try.prog.info? 28).map (fun i => (i.zero, i.size, i.bytes)) = some (some (.agg zero6), 6, 64) := by kernel_rfl

end Go.Proofs.Ytndefngkkikkeaa
