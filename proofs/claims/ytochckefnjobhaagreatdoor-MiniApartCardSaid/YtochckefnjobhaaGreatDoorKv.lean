/- mini.live: what lies where. -/
import Derived.Test.YtochckefnjobhaaGreatDoorFo
import Derived.Test.YtochckefnjobhaaGreatDoorKl
namespace Go.Proofs.YtochckefnjobhaaGreatDoor
open Go Go.RowKit Go.Lib
open X5 (Aut)
set_option linter.unusedVariables false
set_option linter.unusedSimpArgs false
abbrev bools (l : List Bool) : Array Value := (l.map Value.bool).toArray
theorem made_rows (n : Nat) (hn : n ≤ 1000000) (w : World) : (Instr.makeSlice 23 (.int .i64 (n : Int)) (.int .i64 (n : Int))).run Tryz.prog w = .ok (.slice (some ⟨w.heap.size, 0, none⟩) n n) (w.alloc (.cells (Array.replicate n nil1) 87)) := by
 obtain ⟨i0, hi, hz0, hz1, hz2⟩ := info_parts info56
 have := run_makeSlice (P := Tryz.prog) (w := w) 23 87 i0 nil1 Tryz.underlying23 hi hz0 .i64 .i64 (n : Int) (n : Int) (by omega) (by omega) (by rw [hz1]; omega) (by rw [hz2]; omega) (by omega)
 rw [this, hz1]
 have e : madeCells nil1.cells ((n : Int).toNat * 1) = Array.replicate n nil1 := by
  rw [Int.toNat_natCast, Nat.mul_one]
  refine Array.ext (by simp [madeCells]) fun i h1 h2 => ?_
  simp [madeCells, Value.cells, Nat.mod_one]
 rw [e, Int.toNat_natCast]
def inn (B : Nat) (VS : List Value) (XS : List (List Nat)) : List Item := List.zipWith (fun v xs => rowI B 3 v (ints xs)) VS XS
theorem inn_at {B : Nat} {VS : List Value} {XS : List (List Nat)} {i : Nat} {v : Value} {x : List Nat} (h1 : VS[i]? = some v) (h2 : XS[i]? = some x) : (inn B VS XS)[i]? = some (rowI B 3 v (ints x)) := by
 unfold inn
 rw [List.getElem?_zipWith, h1, h2]
theorem inn_set {B : Nat} : ∀ {VS : List Value} {XS : List (List Nat)} {i : Nat} {v : Value} {x : List Nat}, (inn B VS XS).set i (rowI B 3 v (ints x)) = inn B (VS.set i v) (XS.set i x)
 | [], XS, i, v, x => by cases XS <;> simp [inn]
 | _ :: _, [], i, v, x => by simp [inn]
 | a :: VS, b :: XS, 0, v, x => by simp [inn]
 | a :: VS, b :: XS, i + 1, v, x => by
  have := inn_set (B := B) (VS := VS) (XS := XS) (i := i) (v := v) (x := x)
  unfold inn at this ⊢
  simp only [List.zipWith_cons_cons, List.set_cons_succ, this]
structure LS (B : Nat) (W : World) (lb fb : Nat) (lv : List Bool) (VS : List Value) (qv : Value) (q : List Nat) (XS : List (List Nat)) (wr : World) : Prop where
 foot : Foot B W wr (blkI lb (.cells (bools lv) 4 (0, 0)) :: blkI fb (.cells VS.toArray 87 (0, 0)) :: tailI B 3 qv (ints q) :: inn B VS XS)
 len : VS.length = XS.length
section
variable {B : Nat} {W wr w' : World} {lb fb : Nat} {lv : List Bool} {VS : List Value} {qv : Value} {q : List Nat} {XS : List (List Nat)}
theorem LS.below (h : LS B W lb fb lv VS qv q XS wr) (hb : Below wr.heap.size wr w') : LS B W lb fb lv VS qv q XS w' := ⟨h.foot.below hb, h.len⟩
theorem LS.lAt (h : LS B W lb fb lv VS qv q XS wr) : wr.heap[lb]? = some (.cells (bools lv) 4 (0, 0)) := h.foot.ok 0 _ rfl
theorem LS.fAt (h : LS B W lb fb lv VS qv q XS wr) : wr.heap[fb]? = some (.cells VS.toArray 87 (0, 0)) := h.foot.ok 1 _ rfl
theorem LS.qAt (h : LS B W lb fb lv VS qv q XS wr) : ownsTail wr B 3 qv (ints q) := h.foot.ok 2 _ rfl
theorem LS.le (h : LS B W lb fb lv VS qv q XS wr) : B ≤ wr.heap.size := Nat.le_trans h.foot.le h.foot.bel.size
theorem LS.row (h : LS B W lb fb lv VS qv q XS wr) {i : Nat} {x : List Nat} (hx : XS[i]? = some x) : ∃ o c, VS[i]? = some (.slice o x.length c) ∧ wr.ownsRow B 3 1 (.slice o x.length c) x.length (ints x) ∧ wr.cell? ⟨fb, i, none⟩ = some (.slice o x.length c) ∧ wr.frozen? ⟨fb, i, none⟩ = false ∧ fb < wr.heap.size := by
 have hi := (List.getElem?_eq_some_iff.1 hx).1
 obtain ⟨v, hv⟩ : ∃ v, VS[i]? = some v := ⟨_, List.getElem?_eq_getElem (by rw [h.len]; exact hi)⟩
 have hown : wr.ownsRow B 3 1 v (ints x).length (ints x) := h.foot.ok (i + 3) _ (inn_at hv hx)
 rw [List.length_map] at hown
 obtain ⟨o, c, rfl⟩ := own_shape hown
 refine ⟨o, c, hv, hown, ?_, Lib.frozen_of_heap h.fAt i, (Array.getElem?_eq_some_iff.1 h.fAt).1⟩
 rw [Lib.cell_of_heap h.fAt]
 simpa using hv
theorem LS.lv_at (h : LS B W lb fb lv VS qv q XS wr) {i : Nat} {b : Bool} (hb : lv[i]? = some b) : wr.cell? ⟨lb, i, none⟩ = some (.bool b) ∧ wr.frozen? ⟨lb, i, none⟩ = false ∧ lb < wr.heap.size :=
 ⟨(bools_cell h.lAt hb).1, (bools_cell h.lAt hb).2.1, (Array.getElem?_eq_some_iff.1 h.lAt).1⟩
theorem LS.mark (h : LS B W lb fb lv VS qv q XS wr) {i : Nat} (hi : i < lv.length) : LS B W lb fb (lv.set i true) VS qv q XS (wr.setCell ⟨lb, i, none⟩ (.bool true)) := by
 refine ⟨?_, h.len⟩
 have := h.foot.upd 0 rfl (blkI lb (.cells (bools (lv.set i true)) 4 (0, 0))) (Touch.set wr lb i (.bool true)) (bools_cell h.lAt (List.getElem?_eq_getElem hi)).2.2 (fun b hb => ⟨.inl hb, by
  have e : b = lb := by simpa [blkI] using hb
  rw [e, World.size_setCell]
  exact (Array.getElem?_eq_some_iff.1 h.lAt).1⟩)
 exact this
theorem LS.push_q (h : LS B W lb fb lv VS qv q XS wr) {x : Nat} {v' : Value} (hown : ownsTail w' B 3 v' (ints q ++ [.int .i64 (x : Int)])) (hg : wr.grownBy w' qv.ownBlock) (hat : v'.ownBlock = qv.ownBlock ∨ v'.ownBlock = some wr.heap.size) : LS B W lb fb lv VS v' (q ++ [x]) XS w' := by
 refine ⟨?_, h.len⟩
 have e : ints q ++ [.int .i64 (x : Int)] = ints (q ++ [x]) := by simp [ints]
 rw [e] at hown
 exact h.foot.push_tail 2 rfl hown hg hat
theorem LS.pop_q {g off cap x : Nat} (h : LS B W lb fb lv VS (.slice (some ⟨g, off, none⟩) (q.length + 1) cap) (x :: q) XS wr) : wr.cell? ⟨g, off, none⟩ = some (.int .i64 (x : Int)) ∧ 0 < cap ∧ cap ≤ maxLen ∧ q.length + 1 ≤ cap ∧ LS B W lb fb lv VS (.slice (some ⟨g, off + 1, none⟩) q.length (cap - 1)) q XS wr ∧ (cap = 1 → q = [] ∧ LS B W lb fb lv VS (.slice (some ⟨g, off, none⟩) 0 0) q XS wr) := by
 have h1 := h.qAt
 have h2 := tail_next (w := wr) (B := B) (e := 3) (g := g) (off := off) (cap := cap) (x := .int .i64 (x : Int)) (xs := ints q) (by simpa using h1)
 rw [List.length_map] at h2
 obtain ⟨k1, k2, k3, k4, k5, k6, k7⟩ := h2
 exact ⟨k1, k3, k4, k5, ⟨h.foot.say 2 rfl (tailI B 3 (.slice (some ⟨g, off + 1, none⟩) q.length (cap - 1)) (ints q)) k6 (fun b hb => hb), h.len⟩, fun hc => ⟨by have := (k7 hc).1; simpa [ints] using this, h.foot.say 2 rfl (tailI B 3 (.slice (some ⟨g, off, none⟩) 0 0) (ints q)) (k7 hc).2 (fun b hb => hb), h.len⟩⟩
theorem LS.row_kept (h : LS B W lb fb lv VS qv q XS wr) {i : Nat} {xs : List Nat} {v : Value} (hx : XS[i]? = some xs) (hv : VS[i]? = some v) (hg : wr.grownBy w' v.ownBlock) : w'.heap[fb]? = some (.cells VS.toArray 87 (0, 0)) := by
 rw [hg.block fb (Array.getElem?_eq_some_iff.1 h.fAt).1 (fun e => ?_)]
 ·exact h.fAt
 ·have := h.foot.apart 1 (i + 3) _ _ fb rfl (inn_at hv hx) (show fb ∈ [fb] by simp) (show fb ∈ v.ownBlock.toList by rw [← e]; simp)
  omega
theorem LS.push_row (h : LS B W lb fb lv VS qv q XS wr) {i x : Nat} {xs : List Nat} {v v' : Value} (hx : XS[i]? = some xs) (hv : VS[i]? = some v) (hown : w'.ownsRow B 3 1 v' (xs.length + 1) (ints xs ++ [.int .i64 (x : Int)])) (hg : wr.grownBy w' v.ownBlock) (hat : v'.ownBlock = v.ownBlock ∨ v'.ownBlock = some wr.heap.size) : LS B W lb fb lv (VS.set i v') qv q (XS.set i (xs ++ [x])) (w'.setCell ⟨fb, i, none⟩ v') := by
 refine ⟨?_, by rw [List.length_set, List.length_set]; exact h.len⟩
 have e : ints xs ++ [.int .i64 (x : Int)] = ints (xs ++ [x]) := by simp [ints]
 rw [e] at hown
 have h1 := h.foot.push (i + 3) (inn_at hv hx) (ys := ints (xs ++ [x])) (by rw [show (ints (xs ++ [x])).length = xs.length + 1 by simp]; exact hown) hg hat
 have e2 : (blkI lb (.cells (bools lv) 4 (0, 0)) :: blkI fb (.cells VS.toArray 87 (0, 0)) :: tailI B 3 qv (ints q) :: inn B VS XS).set (i + 3) (rowI B 3 v' (ints (xs ++ [x]))) = blkI lb (.cells (bools lv) 4 (0, 0)) :: blkI fb (.cells VS.toArray 87 (0, 0)) :: tailI B 3 qv (ints q) :: inn B (VS.set i v') (XS.set i (xs ++ [x])) := by
  simp only [List.set_cons_succ, inn_set]
 rw [e2] at h1
 have hf := h1.ok 1 _ rfl
 exact h1.upd 1 rfl (blkI fb (.cells (VS.set i v').toArray 87 (0, 0))) (Touch.set w' fb i v') (by
  show (w'.setCell ⟨fb, i, none⟩ v').heap[fb]? = _
  rw [heap_setCell_same w' fb i _ 87 v' hf]
  simp) (fun b hb => ⟨.inl hb, by
  have e : b = fb := by simpa [blkI] using hb
  rw [e, World.size_setCell]
  exact (Array.getElem?_eq_some_iff.1 hf).1⟩)
end
end Go.Proofs.YtochckefnjobhaaGreatDoor
