/- mini.joined: the automaton of blocks. -/
import Derived.Test.YtochckefnjobhaaGreatDoorKf
namespace Go.Proofs.YtochckefnjobhaaGreatDoor
open Go Go.RowKit Go.Lib
open X5 (Aut)
set_option linter.unusedVariables false
set_option linter.unusedSimpArgs false
def GJ (B lb nb mb sb : Nat) (cv : Array Value) (Bk : List Int) (W : World) (st : List Nat) (L : List (Value × Value)) (v rv : Value) (R : List Int) (nd : Value) (CV : List Value) (NX : List (List Int)) (td : Value) (TG : List Nat) (w : World) : Prop :=
 Foot B W w [blkI lb (.cells (cv ++ #[nd, td]) 26 (0, 0)), stI B nb mb sb Bk st L v, rowI B 3 rv (zs R), nxI B nd CV NX, rowI B 54 td (u64s TG)]
section
variable {B lb nb mb sb : Nat} {cv : Array Value} {Bk : List Int} {W w w' : World} {st : List Nat} {L : List (Value × Value)} {v rv : Value} {R : List Int} {nd : Value} {CV : List Value} {NX : List (List Int)} {td : Value} {TG : List Nat}
theorem GJ.num (h : GJ B lb nb mb sb cv Bk W st L v rv R nd CV NX td TG w) {z : Int} {e : Ending} (hn : NumP B nb mb sb Bk st v z w e w') : ∃ v' L', e = .returned (.int .i64 (X6.numJ Bk z st).1) ∧ GJ B lb nb mb sb cv Bk W (X6.numJ Bk z st).2 L' v' rv R nd CV NX td TG w' := by
 obtain ⟨v', L', he, hs, ht, hv⟩ := hn
 refine ⟨v', L', he, ?_⟩
 have := Foot.upd h 1 rfl (stI B nb mb sb Bk (X6.numJ Bk z st).2 L' v') ht hs (fun b hb => ⟨?_, (hs.lt b hb).2⟩)
 ·exact this
 ·have hb' : b ∈ ([nb, mb, sb] ++ v'.ownBlock.toList) := hb
  rcases List.mem_append.1 hb' with h1 | h1
  ·exact .inl (show b ∈ [nb, mb, sb] ++ v.ownBlock.toList from List.mem_append.2 (.inl h1))
  ·rcases hv b (by simpa using h1) with h2 | h2
   ·exact .inl (show b ∈ [nb, mb, sb] ++ v.ownBlock.toList from List.mem_append.2 (.inr (by rw [h2]; simp)))
   ·exact .inr h2
theorem GJ.below (h : GJ B lb nb mb sb cv Bk W st L v rv R nd CV NX td TG w) (hb : Below w.heap.size w w') : GJ B lb nb mb sb cv Bk W st L v rv R nd CV NX td TG w' := Foot.below h hb
theorem GJ.sti (h : GJ B lb nb mb sb cv Bk W st L v rv R nd CV NX td TG w) : StI B nb mb sb Bk st L v w := h.ok 1 _ rfl
theorem GJ.rowAt (h : GJ B lb nb mb sb cv Bk W st L v rv R nd CV NX td TG w) : w.ownsRow B 3 1 rv R.length (zs R) := by
 have := h.ok 2 _ rfl
 have h2 : w.ownsRow B 3 1 rv (zs R).length (zs R) := this
 rwa [List.length_map] at h2
theorem GJ.leB (h : GJ B lb nb mb sb cv Bk W st L v rv R nd CV NX td TG w) : B ≤ w.heap.size := Nat.le_trans (Foot.le h) (Foot.bel h).size
theorem GJ.push (h : GJ B lb nb mb sb cv Bk W st L v rv R nd CV NX td TG w) {z : Int} {v' : Value} (hown : w'.ownsRow B 3 1 v' (R.length + 1) (zs R ++ [.int .i64 z])) (hg : w.grownBy w' rv.ownBlock) (hat : v'.ownBlock = rv.ownBlock ∨ v'.ownBlock = some w.heap.size) : GJ B lb nb mb sb cv Bk W st L v v' (R ++ [z]) nd CV NX td TG w' := by
 have e : zs R ++ [.int .i64 z] = zs (R ++ [z]) := by simp [zs]
 rw [e] at hown
 exact Foot.push h 2 rfl (ys := zs (R ++ [z])) (by rw [show (zs (R ++ [z])).length = R.length + 1 by simp]; exact hown) hg hat
theorem GJ.blk (h : GJ B lb nb mb sb cv Bk W st L v rv R nd CV NX td TG w) : w.heap[lb]? = some (.cells (cv ++ #[nd, td]) 26 (0, 0)) := h.ok 0 _ rfl
theorem GJ.nx (h : GJ B lb nb mb sb cv Bk W st L v rv R nd CV NX td TG w) : NxOk B nd CV NX w := h.ok 3 _ rfl
theorem GJ.tg (h : GJ B lb nb mb sb cv Bk W st L v rv R nd CV NX td TG w) : w.ownsRow B 54 1 td TG.length (u64s TG) := by
 have := h.ok 4 _ rfl
 have h2 : w.ownsRow B 54 1 td (u64s TG).length (u64s TG) := this
 rwa [List.length_map] at h2
theorem GJ.fresh (h : GJ B lb nb mb sb cv Bk W st L v rv R nd CV NX td TG w) (hR : rv.ownBlock = none) {v' : Value} (hown : w'.ownsRow B 3 1 v' 0 []) (hb : Below w.heap.size w w') (hv : ∀ b, v'.ownBlock = some b → w.heap.size ≤ b) : GJ B lb nb mb sb cv Bk W st L v v' [] nd CV NX td TG w' :=
 (Foot.upd h 2 rfl (rowI B 3 v' []) (Touch.mono (Touch.below hb) (by simp)) hown fun b hb => by
  have hb' : v'.ownBlock = some b := by
   have : b ∈ v'.ownBlock.toList := hb
   simpa using this
  exact ⟨.inr (hv b hb'), (owns_lt hown b hb').2⟩)
theorem inBl_app {CV : List Value} {v : Value} {n : Nat} (hn : n ≤ CV.length) : inBl (CV ++ [v]) n = inBl CV n := by
 unfold inBl
 rw [List.take_append_of_le_length hn]
theorem inBl_last {CV : List Value} {v : Value} {b : Nat} (hb : b ∈ inBl (CV ++ [v]) (CV.length + 1)) : b ∈ inBl CV CV.length ∨ v.ownBlock = some b := by
 obtain ⟨i, u, hi, hu, hub⟩ := inBl_mem.1 hb
 rcases Nat.lt_or_ge i CV.length with h | h
 ·rw [List.getElem?_append_left h] at hu
  exact .inl (inBl_mem.2 ⟨i, u, h, hu, hub⟩)
 ·have : i = CV.length := by omega
  subst this
  rw [List.getElem?_append_right (Nat.le_refl _), Nat.sub_self] at hu
  injection hu with hu
  exact .inr (by rw [hu]; exact hub)
theorem GJ.next (h : GJ B lb nb mb sb cv Bk W st L v rv R nd CV NX td TG w) (hs : cv.size = 256) (hl : CV.length = NX.length) {v' : Value} (hown : w'.ownsRow B 87 1 v' (CV.length + 1) (CV ++ [rv])) (hg : w.grownBy w' nd.ownBlock) (hat : v'.ownBlock = nd.ownBlock ∨ v'.ownBlock = some w.heap.size) :
  w'.heap[lb]? = some (.cells (cv ++ #[nd, td]) 26 (0, 0)) ∧ GJ B lb nb mb sb cv Bk W st L v nil1 [] v' (CV ++ [rv]) (NX ++ [R]) td TG (w'.setCell ⟨lb, 256, none⟩ v') := by
 have hnx := h.nx
 have hin : ∀ b, b ∈ inBl CV NX.length → b < w.heap.size := fun b hb => (Foot.lt h 3 _ rfl b (List.mem_append.2 (.inr hb))).2
 have hoff : ∀ b, b ∈ inBl CV NX.length → v'.ownBlock ≠ some b := by
  intro b hb e
  rcases hat with h1 | h1
  ·exact hnx.off b hb (by rw [← h1]; exact e)
  ·rw [h1] at e; injection e with e; have := hin b hb; omega
 have h1 := Foot.upd h 3 rfl (nxI B v' (CV ++ [rv]) NX) (Touch.mono (Touch.grown hg) (fun g hg => List.mem_append.2 (.inl hg))) ⟨by rw [List.length_append, List.length_singleton]; exact hown, by rw [List.length_append]; omega, fun i u x hu hx => by
  have hi := (List.getElem?_eq_some_iff.1 hx).1
  rw [List.getElem?_append_left (by omega)] at hu
  refine owns_kept (hnx.each i u x hu hx) fun g hgu => ?_
  have hm : g ∈ inBl CV NX.length := inBl_mem.2 ⟨i, u, hi, hu, hgu⟩
  exact hg.block g (hin g hm) (fun e => hnx.off g hm e.symm), fun b hb => by
  rw [inBl_app (by omega)] at hb
  exact hoff b hb⟩ (fun b hb => by
  rcases List.mem_append.1 (show b ∈ v'.ownBlock.toList ++ inBl (CV ++ [rv]) NX.length from hb) with h2 | h2
  ·have hb' : v'.ownBlock = some b := by simpa using h2
   refine ⟨?_, (owns_lt hown b hb').2⟩
   rcases hat with e1 | e1
   ·exact .inl (List.mem_append.2 (.inl (by rw [← e1, hb']; simp)))
   ·rw [e1] at hb'; injection hb' with hb'; exact .inr (by omega)
  ·rw [inBl_app (by omega)] at h2
   exact ⟨.inl (List.mem_append.2 (.inr h2)), by have := hin b h2; have := hg.size; omega⟩)
 have hrv : w'.ownsRow B 3 1 rv R.length (zs R) := by
  have h2 : w'.ownsRow B 3 1 rv (zs R).length (zs R) := h1.ok 2 _ rfl
  rwa [List.length_map] at h2
 have hz : NxOk B v' (CV ++ [rv]) (NX ++ [R]) w' := by
  have hk : NxOk B v' (CV ++ [rv]) NX w' := h1.ok 3 _ rfl
  refine ⟨hk.row, by rw [List.length_append, List.length_append]; simp; omega, fun i u x hu hx => ?_, fun b hb => ?_⟩
  ·rcases Nat.lt_or_ge i NX.length with hi | hi
   ·rw [List.getElem?_append_left hi] at hx
    exact hk.each i u x hu hx
   ·have hi2 := (List.getElem?_eq_some_iff.1 hx).1
    rw [List.length_append, List.length_singleton] at hi2
    have : i = NX.length := by omega
    subst this
    rw [List.getElem?_append_right (Nat.le_refl _), Nat.sub_self] at hx
    rw [List.getElem?_append_right (by omega), hl, Nat.sub_self] at hu
    injection hx with hx
    injection hu with hu
    subst hx hu
    exact hrv
  ·rw [List.length_append, List.length_singleton, ← hl] at hb
   rcases inBl_last hb with h2 | h2
   ·exact hoff b (by rw [← hl]; exact h2)
   ·intro e
    have := h1.apart 3 2 _ _ b rfl rfl (List.mem_append.2 (.inl (show b ∈ v'.ownBlock.toList by rw [e]; simp))) (show b ∈ rv.ownBlock.toList by rw [h2]; simp)
    omega
 have h2 := h1.join 3 2 rfl rfl (by decide) (nxI B v' (CV ++ [rv]) (NX ++ [R])) (rowI B 3 nil1 (zs [])) hz (World.ownsRow_nil w' _ 3 1) rfl (fun b hb => by
  rcases List.mem_append.1 (show b ∈ v'.ownBlock.toList ++ inBl (CV ++ [rv]) (NX ++ [R]).length from hb) with h3 | h3
  ·exact .inl (List.mem_append.2 (.inl h3))
  ·rw [List.length_append, List.length_singleton, ← hl] at h3
   rcases inBl_last h3 with h4 | h4
   ·exact .inl (List.mem_append.2 (.inr (by rw [inBl_app (by omega), ← hl]; exact h4)))
   ·exact .inr (show b ∈ rv.ownBlock.toList by rw [h4]; simp))
 have hbk : w'.heap[lb]? = some (.cells (cv ++ #[nd, td]) 26 (0, 0)) := h2.ok 0 _ rfl
 refine ⟨hbk, ?_⟩
 exact h2.upd 0 rfl (blkI lb (.cells (cv ++ #[v', td]) 26 (0, 0))) (Touch.set w' lb 256 v') (by
  show (w'.setCell ⟨lb, 256, none⟩ v').heap[lb]? = _
  rw [heap_setCell_same w' lb 256 _ 26 v' hbk, set_mid hs]) (fun b hb => ⟨.inl hb, by
  have e : b = lb := by simpa [blkI] using hb
  rw [e, World.size_setCell]; exact (Array.getElem?_eq_some_iff.1 hbk).1⟩)
theorem GJ.tag (h : GJ B lb nb mb sb cv Bk W st L v rv R nd CV NX td TG w) (hs : cv.size = 256) {q : Nat} {v' : Value} (hown : w'.ownsRow B 54 1 v' (TG.length + 1) (u64s TG ++ [.int .u64 (q : Int)])) (hg : w.grownBy w' td.ownBlock) (hat : v'.ownBlock = td.ownBlock ∨ v'.ownBlock = some w.heap.size) :
  w'.heap[lb]? = some (.cells (cv ++ #[nd, td]) 26 (0, 0)) ∧ StI B nb mb sb Bk st L v w' ∧ GJ B lb nb mb sb cv Bk W st L v rv R nd CV NX v' (TG ++ [q]) (w'.setCell ⟨lb, 257, none⟩ v') := by
 have e : u64s TG ++ [.int .u64 (q : Int)] = u64s (TG ++ [q]) := by simp [u64s]
 rw [e] at hown
 have h2 := Foot.push h 4 rfl (ys := u64s (TG ++ [q])) (by rw [show (u64s (TG ++ [q])).length = TG.length + 1 by simp]; exact hown) hg hat
 have hbk : w'.heap[lb]? = some (.cells (cv ++ #[nd, td]) 26 (0, 0)) := h2.ok 0 _ rfl
 refine ⟨hbk, h2.ok 1 _ rfl, ?_⟩
 exact h2.upd 0 rfl (blkI lb (.cells (cv ++ #[nd, v']) 26 (0, 0))) (Touch.set w' lb 257 v') (by
  show (w'.setCell ⟨lb, 257, none⟩ v').heap[lb]? = _
  rw [heap_setCell_same w' lb 257 _ 26 v' hbk, set_end hs]) (fun b hb => ⟨.inl hb, by
  have e : b = lb := by simpa [blkI] using hb
  rw [e, World.size_setCell]; exact (Array.getElem?_eq_some_iff.1 hbk).1⟩)
end
end Go.Proofs.YtochckefnjobhaaGreatDoor
