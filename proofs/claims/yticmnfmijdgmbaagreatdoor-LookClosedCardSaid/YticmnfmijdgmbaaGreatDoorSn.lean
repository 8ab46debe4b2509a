/- The items at the beginning of each production of a sort, one by one. -/
import Derived.RangeFuncNested
import Derived.RangeFuncBound
import Derived.RangeFuncLeaves
import Derived.Shelf.Abstract
import Derived.Shelf.RegionOpen
import Derived.WalkKit
import Derived.OwnWalkIn
import Derived.TacticsInMore
import Derived.LoopNIn
import Derived.LoopIn
import Derived.Outline
import Derived.Deep.DeepMust
import Derived.Test.YticmnfmijdgmbaaGreatDoorSd
import Derived.Test.YticmnfmijdgmbaaGreatDoorSb
import Derived.Sort.Walk0
import Derived.Deep.QuietTactic
import Derived.BigQuiet
import Derived.Test.YticmnfmijdgmbaaGreatDoorGd
import Derived.Maps.OwnIn
namespace Go.Proofs.YticmnfmijdgmbaaGreatDoor
open Go Go.RowKit Go.Shelf Go.Lib
open X14 (It beginX sortX)
attribute [local go_sem] Oper.semAt_some
set_option linter.unusedVariables false
set_option linter.unusedSimpArgs false
theorem cell1 {w : World} {b : Nat} {v : Value} {e : TypeId} (h : w.heap[b]? = some (.cells #[v] e (0, 0))) : w.cell? ⟨b, 0, none⟩ = some v := Lib.cell_of_heap h 0
structure KeptT (m : Nat) (T : List Nat) (W W' : World) : Prop where
 os : W'.os = W.os
 tape : W'.tape = W.tape
 output : W'.output = W.output
 size : W.heap.size ≤ W'.heap.size
 block : ∀ g, g < m → g ∉ T → W'.heap[g]? = W.heap[g]?
theorem KeptT.refl (m : Nat) (T : List Nat) (W : World) : KeptT m T W W := ⟨rfl, rfl, rfl, Nat.le_refl _, fun _ _ _ => rfl⟩
theorem KeptT.trans {m : Nat} {T : List Nat} {A B C : World} (h : KeptT m T A B) (k : KeptT m T B C) : KeptT m T A C := ⟨k.os.trans h.os, k.tape.trans h.tape, k.output.trans h.output, Nat.le_trans h.size k.size, fun g h1 h2 => (k.block g h1 h2).trans (h.block g h1 h2)⟩
theorem KeptT.below {m : Nat} {T : List Nat} {A B C : World} (h : KeptT m T A B) (hm : m ≤ B.heap.size) (k : Below B.heap.size B C) : KeptT m T A C := h.trans ⟨k.os, k.tape, k.output, k.size, fun g h1 _ => k.block g (by omega)⟩
theorem KeptT.bel {m n : Nat} {T : List Nat} {A B C : World} (h : KeptT m T B C) (k : Below n A B) (hn : n ≤ m) (hb : ∀ b ∈ T, n ≤ b) : Below n A C := ⟨h.os.trans k.os, h.tape.trans k.tape, h.output.trans k.output, Nat.le_trans k.size h.size, fun g hg => (h.block g (by omega) (fun hm => by have := hb g hm; omega)).trans (k.block g hg)⟩
def encB (x : It) : Array Value := #[.agg #[.int .i64 x.1, .int .i64 x.2]]
set_option maxRecDepth 100000 in
theorem begins_in (n : Nat) (tv ov sv pv : Value) (st t : Int) (w : World) :
  CallsIn Fence.wide n Tryz.prog 105 #[.agg #[tv, ov, sv, pv, .int .i64 st], .int .i64 t] w fun e w' => e = .returned (.func (.func 127) #[] #[.pointer (some ⟨w.heap.size, 0, none⟩), .pointer (some ⟨w.heap.size + 1, 0, none⟩)]) ∧ w' = (w.alloc (.cells #[tv, ov, sv, pv, .int .i64 st] 27)).alloc (.cells #[.int .i64 t] 3) := by
 refine callsIn_of_wp Tryz.func105 rfl trivial ?_ rfl
 simp only [Tryz.ntmps105, List.size_toArray, List.length_cons, List.length_nil, Nat.reduceAdd, Nat.reduceSub, Array.replicate_succ, Array.replicate_zero, List.push_toArray, List.append_toArray, List.nil_append, List.cons_append]
 gi_wp2
 go_ret
 exact ⟨rfl, rfl⟩
set_option maxRecDepth 100000 in
set_option maxHeartbeats 8000000 in
theorem begins_seq (n : Nat) (hn : 1 ≤ n) {G : GD} {tv ov sv pv : Value} (w0 : World) (hG : Gram w0 (.agg #[tv, ov, sv, pv, .int .i64 G.start]) G) (hp : G.prods.length ≤ 1000) (T : List Nat) (bG bS t : Nat) (wS : World) (hw : Below w0.heap.size w0 wS)
  (h4 : wS.heap[bG]? = some (.cells #[tv, ov, sv, pv, .int .i64 G.start] 27 (0, 0))) (hS : wS.heap[bS]? = some (.cells #[.int .i64 (t : Int)] 3 (0, 0))) (hT : ∀ b ∈ T, w0.heap.size ≤ b ∧ b ≠ bG ∧ b ≠ bS) (h0S : w0.heap.size ≤ wS.heap.size) :
  SeqStopsK Fence.wide n Tryz.prog 127 #[.pointer (some ⟨bG, 0, none⟩), .pointer (some ⟨bS, 0, none⟩)] encB (KeptT wS.heap.size T) (fun xs => xs = beginX G t G.prods.length) (fun _ => True) (G.prods.length + 1) wS := fun l J Jx W hW hJ hJx hY h0 => by
 have HY := hid hY
 have HJ0 := hid hJ
 have HKW := hid ((KeptT.refl wS.heap.size T wS).below (Nat.le_refl _) hW)
 have l4 := (Array.getElem?_eq_some_iff.1 h4).1
 have lS := (Array.getElem?_eq_some_iff.1 hS).1
 have HB := hid (fun (wr : World) (h : KeptT wS.heap.size T wS wr) => And.intro ((h.block bG l4 (fun hm => (hT bG hm).2.1 rfl)).trans h4) (And.intro ((h.block bS lS (fun hm => (hT bS hm).2.2 rfl)).trans hS) (hG.below (h.bel hw h0S (fun b hb => (hT b hb).1)))))
 have HM := hid (fun (wr : World) (h : KeptT wS.heap.size T wS wr) => h.size)
 obtain ⟨tv', ov', sv', pv', tf, rv, hgr⟩ := hG
 have hpv := hgr.prods
 have heq := hgr.eq
 injection heq with heq
 injection heq with heq
 simp only [List.cons.injEq, and_true] at heq
 obtain ⟨rfl, rfl, rfl, rfl⟩ := heq
 obtain ⟨pa, pc, rfl, hpn, _⟩ := hpv
 obtain ⟨np, hnp⟩ : ∃ np, G.prods.length = np := ⟨_, rfl⟩
 have HNP := hid hnp
 rw [hnp] at hp hpn h4 HB ⊢
 clear hgr h4 hS hT hw l4 lS hJ hJx hY hnp hW
 refine callsIn_of_wp Tryz.func127 rfl trivial ?_ rfl
 simp only [Tryz.ntmps127, List.size_toArray, List.length_cons, List.length_nil, Nat.reduceAdd, Nat.reduceSub, Array.replicate_succ, Array.replicate_zero, List.push_toArray, List.append_toArray, List.nil_append, List.cons_append]
 have c3 : W.cell? ⟨bG, 3, none⟩ = some (.slice pa np pc) := Lib.cell_of_heap (HB.out W HKW.out).1 3
 gi_wp2
 clear c3
 gi_loopw [4, 5, 9] (fun i4 i5 i9 wr => ∃ j : Nat, j ≤ np ∧ i9 = .int .i64 (j : Int) ∧ Hid (KeptT wS.heap.size T wS wr) ∧ Hid (J (beginX G t j) wr)) (fun _ _ i9 _ => np - (intOf i9).toNat)
 case atStart => exact ⟨0, Nat.zero_le _, rfl, HKW, hid h0⟩
 case round =>
  obtain ⟨j, hj, rfl, HK, HJ⟩ := hrel
  have hle := HM.out wr HK.out
  by_cases hlt : j < np
  ·have t1 : (j : Int) < (np : Int) := by omega
   have t2 : (0 : Int) ≤ (j : Int) := by omega
   obtain ⟨hb4, hbS, hgw⟩ := HB.out wr HK.out
   obtain ⟨tv', ov', sv', pv', tf, rv, hgr⟩ := hgw
   have heq := hgr.eq
   injection heq with heq
   injection heq with heq
   simp only [List.cons.injEq, and_true] at heq
   obtain ⟨rfl, rfl, rfl, rfl⟩ := heq
   have hjp : j < G.prods.length := by rw [HNP.out]; exact hlt
   obtain ⟨pa', pc', he, _, hcs⟩ := hgr.prods
   injection he with he1 he2 he3
   subst he1
   obtain ⟨pb, po, hpe, hcq⟩ := hcs (by omega)
   subst hpe
   obtain ⟨q0, q1, q2, q3⟩ := hcq j hjp
   obtain ⟨⟨ra, rc, hrv, _, _⟩, _⟩ := hgr.rights j hjp
   rw [hrv] at q2
   obtain ⟨rn, hrn⟩ : ∃ rn, (G.prods.getD j default).rs.length = rn := ⟨_, rfl⟩
   rw [hrn] at q2
   obtain ⟨lab, hlab⟩ : ∃ lab, (G.prods.getD j default).lab = lab := ⟨_, rfl⟩
   rw [hlab] at q0
   obtain ⟨so, hso⟩ : ∃ so, (G.prods.getD j default).sort = so := ⟨_, rfl⟩
   rw [hso] at q1
   have HSO := hid (show sortX G j = so from hso)
   obtain ⟨cl, hcl⟩ : ∃ cl, (G.prods.getD j default).cls = cl := ⟨_, rfl⟩
   rw [hcl] at q3
   obtain ⟨wx, ex⟩ : ∃ wx, wr.alloc (.cells #[.string ⟨#[]⟩, .int .i64 0, .slice none 0 0, .int .i64 0] 71) = wx := ⟨_, rfl⟩
   have hbx : Below wr.heap.size wr wx := by rw [← ex]; exact (Below.refl _ _).alloc (Nat.le_refl _) _
   have nx : wx.heap[wr.heap.size]? = some (.cells #[.string ⟨#[]⟩, .int .i64 0, .slice none 0 0, .int .i64 0] 71 (0, 0)) := by rw [← ex]; exact new_block _ _
   obtain ⟨wa, ea⟩ : ∃ wa, wx.setCell ⟨wr.heap.size, 0, none⟩ (.string lab) = wa := ⟨_, rfl⟩
   obtain ⟨wb, eb⟩ : ∃ wb, wa.setCell ⟨wr.heap.size, 1, none⟩ (.int .i64 so) = wb := ⟨_, rfl⟩
   obtain ⟨wc, ec⟩ : ∃ wc, wb.setCell ⟨wr.heap.size, 2, none⟩ (.slice ra rn rc) = wc := ⟨_, rfl⟩
   obtain ⟨wd, ed⟩ : ∃ wd, wc.setCell ⟨wr.heap.size, 3, none⟩ (.int .i64 cl) = wd := ⟨_, rfl⟩
   have na : wa.heap[wr.heap.size]? = some (.cells #[.string lab, .int .i64 0, .slice none 0 0, .int .i64 0] 71 (0, 0)) := by rw [← ea]; exact heap_setCell_same _ _ 0 _ 71 _ nx
   have nb : wb.heap[wr.heap.size]? = some (.cells #[.string lab, .int .i64 so, .slice none 0 0, .int .i64 0] 71 (0, 0)) := by rw [← eb]; exact heap_setCell_same _ _ 1 _ 71 _ na
   have nc : wc.heap[wr.heap.size]? = some (.cells #[.string lab, .int .i64 so, .slice ra rn rc, .int .i64 0] 71 (0, 0)) := by rw [← ec]; exact heap_setCell_same _ _ 2 _ 71 _ nb
   have nd : wd.heap[wr.heap.size]? = some (.cells #[.string lab, .int .i64 so, .slice ra rn rc, .int .i64 cl] 71 (0, 0)) := by rw [← ed]; exact heap_setCell_same _ _ 3 _ 71 _ nc
   have hbd : Below wr.heap.size wr wd := by
    rw [← ed, ← ec, ← eb, ← ea]
    exact (((hbx.setCell (Nat.le_refl _) _).setCell (Nat.le_refl _) _).setCell (Nat.le_refl _) _).setCell (Nat.le_refl _) _
   have c0 : wx.cell? ⟨wr.heap.size, 0, none⟩ = some (.string ⟨#[]⟩) := Lib.cell_of_heap nx 0
   have f0 := Lib.frozen_of_heap nx 0
   have c1 : wa.cell? ⟨wr.heap.size, 1, none⟩ = some (.int .i64 0) := Lib.cell_of_heap na 1
   have f1 := Lib.frozen_of_heap na 1
   have c2 : wb.cell? ⟨wr.heap.size, 2, none⟩ = some (.slice none 0 0) := Lib.cell_of_heap nb 2
   have f2 := Lib.frozen_of_heap nb 2
   have c3 : wc.cell? ⟨wr.heap.size, 3, none⟩ = some (.int .i64 0) := Lib.cell_of_heap nc 3
   have f3 := Lib.frozen_of_heap nc 3
   have cd : wd.cell? ⟨wr.heap.size, 1, none⟩ = some (.int .i64 so) := Lib.cell_of_heap nd 1
   have cS : wd.cell? ⟨bS, 0, none⟩ = some (.int .i64 (t : Int)) := cell_bel hbd (Array.getElem?_eq_some_iff.1 hbS).1 (cell1 hbS)
   have HK2 := hid (HK.out.below hle hbd)
   have HJ2 := hid (HJ0.out _ _ _ none HJ.out ⟨hbd.os, hbd.tape, hbd.output, hbd.size, fun g hg _ => hbd.block g hg⟩ (fun r e => by cases e))
   clear hgr hcs hcq hrv hrn hlab hso hcl hbx nx na nb nc nd hbd hb4 hbS he2 he3 HJ HK
   by_cases hst : so = (t : Int)
   ·have hpre := X14.beginX_succ G t j
    rw [HSO.out, if_pos hst] at hpre
    obtain ⟨fn, tmps, assign, body, hy, hR⟩ := HY.out _ ((j : Int), 0) wd HJ2.out (by
     have : (beginX G t j).length ≤ j := by
      unfold X14.beginX
      rw [List.length_map]
      exact Nat.le_trans (List.length_filter_le _ _) (by simp)
     have := HNP.out
     omega)
    rw [← hpre] at hR
    have hen : encB ((j : Int), 0) = #[.agg #[.int .i64 (j : Int), .int .i64 0]] := rfl
    rw [hen] at hy
    have HR := hid hR
    have t0 : (so == (t : Int)) = true := by simpa using hst
    clear hR hen hpre
    subst hst
    gi_wp2_with fail
    refine HR.out.mono ?_
    rintro e W3 (⟨rfl, hJ3, hk3⟩ | ⟨rfl, hJx3⟩)
    ·have HJ3 := hid hJ3
     have HK3 := hid (HK2.out.trans hk3)
     clear hJ3 hk3 c0 c1 c2 c3 f0 f1 f2 f3 cd cS q0 q1 q2 q3 ex ea eb ec ed hy
     gi_wp2_with fail
     refine ⟨⟨j + 1, by omega, rfl, HK3, HJ3⟩, ?_⟩
     show np - ((j : Int) + 1).toNat < np - ((j : Int)).toNat
     omega
    ·gi_wp2_with fail
     refine bodyPost_ret (results_none rfl _ _ _) rfl ?_
     exact ⟨⟨_, rfl⟩, .inr ⟨_, trivial, hJx3⟩⟩
   ·have t0 : (so == (t : Int)) = false := by simpa using hst
    have hpre := X14.beginX_succ G t j
    rw [HSO.out, if_neg hst, List.append_nil] at hpre
    have HP := hid hpre
    clear hpre
    have HJ3 := hid (show J (beginX G t (j + 1)) wd from by rw [HP.out]; exact HJ2.out)
    gi_wp2_with fail
    first
      | refine ⟨fun _ h => (by cases h), ?_⟩
      | skip
    gi_wp2_with fail
    refine ⟨⟨j + 1, by omega, rfl, HK2, HJ3⟩, ?_⟩
    show np - ((j : Int) + 1).toNat < np - ((j : Int)).toNat
    omega
  ·have t1 : ¬ (j : Int) < (np : Int) := by omega
   have hjj : j = np := by omega
   have HJJ := hid hjj
   clear hjj
   gi_wp2_with fail
   go_end0
   have hend := HJ.out
   rw [HJJ.out] at hend
   first
     | exact ⟨⟨_, rfl⟩, .inl ⟨_, rfl, hend⟩⟩
     | exact ⟨⟨_, rfl⟩, .inl hend⟩
end Go.Proofs.YticmnfmijdgmbaaGreatDoor

/- A row of items that grows, held by a variable; rows that are made. -/
namespace Go.Proofs.YticmnfmijdgmbaaGreatDoor
open Go Go.RowKit Go.Lib
open X14 (It)
set_option linter.unusedVariables false
set_option linter.unusedSimpArgs false
theorem info4 : (Tryz.prog.info? 4).map (fun i => (i.zero, i.size, i.bytes)) = some (some (.bool false), 1, 1) := by kernel_rfl
theorem made_bools (n : Nat) (hn : n ≤ 1000000) (w : World) : (Instr.makeSlice 75 (.int .i64 (n : Int)) (.int .i64 (n : Int))).run Tryz.prog w = .ok (.slice (some ⟨w.heap.size, 0, none⟩) n n) (w.alloc (.cells (Array.replicate n (.bool false)) 4)) := by
 obtain ⟨i0, hi, hz0, hz1, hz2⟩ := info_parts info4
 have := run_makeSlice (P := Tryz.prog) (w := w) 75 4 i0 (.bool false) Tryz.underlying75 hi hz0 .i64 .i64 (n : Int) (n : Int) (by omega) (by omega) (by rw [hz1]; omega) (by rw [hz2]; omega) (by omega)
 rw [this, hz1]
 have e : madeCells (Value.bool false).cells ((n : Int).toNat * 1) = Array.replicate n (.bool false) := by
  rw [Int.toNat_natCast, Nat.mul_one]
  refine Array.ext (by simp [madeCells]) fun i h1 h2 => ?_
  simp [madeCells, Value.cells, Nat.mod_one]
 rw [e, Int.toNat_natCast]
theorem made_items (n : Nat) (hn : n ≤ 1000000) (w : World) : (Instr.makeSlice 45 (.int .i64 0) (.int .i64 (n : Int))).run Tryz.prog w = .ok (.slice (some ⟨w.heap.size, 0, none⟩) 0 n) (w.alloc (.cells (Array.replicate (n * 2) (.int .i64 0)) 60)) := by
 obtain ⟨i0, hi, hz0, hz1, hz2⟩ := info_parts info37
 have := run_makeSlice (P := Tryz.prog) (w := w) 45 60 i0 (.agg #[.int .i64 0, .int .i64 0]) Tryz.underlying45 hi hz0 .i64 .i64 (0 : Int) (n : Int) (by omega) (by omega) (by rw [hz1]; omega) (by rw [hz2]; omega) (by omega)
 rw [this, hz1]
 have e : madeCells (Value.agg #[.int .i64 0, .int .i64 0]).cells ((n : Int).toNat * 2) = Array.replicate (n * 2) (.int .i64 0) := by
  rw [Int.toNat_natCast]
  have e2 : (Value.agg #[.int .i64 0, .int .i64 0]).cells = #[.int .i64 0, .int .i64 0] := rfl
  rw [e2]
  refine Array.ext (by simp [madeCells]) fun i h1 h2 => ?_
  simp [madeCells]
  rcases Nat.mod_two_eq_zero_or_one i with hm | hm <;> simp [hm]
 rw [e, Int.toNat_natCast]
 rfl
def ItemsAt (w : World) (v : Value) (l : List It) : Prop := RowAt v l.length (fun i b off => w.cell? ⟨b, off + i * 2, none⟩ = some (.int .i64 (l.getD i (0, 0)).1) ∧ w.cell? ⟨b, off + i * 2 + 1, none⟩ = some (.int .i64 (l.getD i (0, 0)).2))
theorem ItemsAt.below {w w' : World} {v : Value} {l : List It} (h : ItemsAt w v l) (hb : Below w.heap.size w w') : ItemsAt w' v l := RowAt.mono h fun _ _ _ ⟨h1, h2⟩ => ⟨cell_below hb h1, cell_below hb h2⟩
structure Out (w0 w : World) (bo : Nat) (O : List It) (g c : Nat) : Prop where
 box : w.heap[bo]? = some (.cells #[.slice (some ⟨g, 0, none⟩) O.length c] 45 (0, 0))
 own : w.ownsRow w0.heap.size 60 2 (.slice (some ⟨g, 0, none⟩) O.length c) O.length (icells O)
 ne : g ≠ bo
 bel : Below w0.heap.size w0 w
 ge : w0.heap.size ≤ bo
theorem Out.lt {w0 w : World} {bo g c : Nat} {O : List It} (h : Out w0 w bo O g c) : w0.heap.size ≤ g ∧ g < w.heap.size ∧ bo < w.heap.size := ⟨(owns_lt h.own g rfl).1, (owns_lt h.own g rfl).2, (Array.getElem?_eq_some_iff.1 h.box).1⟩
theorem Out.keep {w0 w w' : World} {bo g c : Nat} {O : List It} (h : Out w0 w bo O g c) (h1 : w'.heap[bo]? = w.heap[bo]?) (h2 : w'.heap[g]? = w.heap[g]?) (hb : Below w0.heap.size w0 w') : Out w0 w' bo O g c :=
 ⟨h1.trans h.box, owns_kept h.own fun q hq => by injection hq with hq; subst hq; exact h2, h.ne, hb, h.ge⟩
theorem Out.below {w0 w w' : World} {bo g c : Nat} {O : List It} (h : Out w0 w bo O g c) (hb : Below w.heap.size w w') : Out w0 w' bo O g c :=
 h.keep (hb.block _ h.lt.2.2) (hb.block _ h.lt.2.1) (h.bel.trans (hb.mono (h.bel.size)))
theorem Out.cap {w0 w : World} {bo g c : Nat} {O : List It} (h : Out w0 w bo O g c) : O.length ≤ c ∧ c ≤ 9223372036854775807 := by
 rcases h.own.2 with ⟨e, _⟩ | ⟨g', cap, cur, e, _, _, h2, h3, _⟩
 ·cases e
 ·injection e with _ _ e
  subst e
  exact ⟨h2, h3⟩
theorem Out.push {w0 w w2 : World} {bo g c : Nat} {O : List It} {x : It} {v' : Value} (h : Out w0 w bo O g c) (hown : w2.ownsRow w0.heap.size 60 2 v' (O.length + 1) (icells O ++ [.int .i64 x.1, .int .i64 x.2])) (hg : w.grownBy w2 (some g)) (hat : v'.ownBlock = some g ∨ v'.ownBlock = some w.heap.size) :
  ∃ g' c', v' = .slice (some ⟨g', 0, none⟩) (O.length + 1) c' ∧ w2.heap[bo]? = some (.cells #[.slice (some ⟨g, 0, none⟩) O.length c] 45 (0, 0)) ∧ Out w0 (w2.setCell ⟨bo, 0, none⟩ v') bo (O ++ [x]) g' c' ∧ (g' = g ∨ g' = w.heap.size) ∧
   ∀ (m : Nat) (T : List Nat), m ≤ w.heap.size → bo ∈ T → (g ∈ T ∨ m ≤ g) → KeptT m T w (w2.setCell ⟨bo, 0, none⟩ v') := by
 obtain ⟨o, c', rfl⟩ := own_shape hown
 obtain ⟨g', rfl⟩ : ∃ g', o = some ⟨g', 0, none⟩ := by
  rcases hown.2 with ⟨e, h0⟩ | ⟨g', _, _, e, _⟩
  ·omega
  ·injection e with e; exact ⟨g', e⟩
 have hgg : g' = g ∨ g' = w.heap.size := hat.imp (fun e => Option.some.inj e) (fun e => Option.some.inj e)
 have hlt := h.lt
 have hbo : w2.heap[bo]? = some (.cells #[.slice (some ⟨g, 0, none⟩) O.length c] 45 (0, 0)) := (hg.block bo hlt.2.2 (fun e => h.ne (Option.some.inj e).symm)).trans h.box
 have hne : g' ≠ bo := by
  rcases hgg with e | e
  ·rw [e]; exact h.ne
  ·rw [e]; omega
 have hb2 : Below w0.heap.size w0 w2 := h.bel.grown hg h.bel.size (fun k e => by injection e with e; subst e; exact hlt.1)
 refine ⟨g', c', rfl, hbo, ⟨?_, ?_, hne, hb2.setCell h.ge _, h.ge⟩, hgg, fun m T hm hbT hgT => ⟨hg.os, hg.tape, hg.output, by rw [World.size_setCell]; exact hg.size, fun q hq hqT => ?_⟩⟩
 ·rw [heap_setCell_same w2 bo 0 _ 45 _ hbo, List.length_append]
  rfl
 ·rw [List.length_append, icells_snoc]
  exact owns_kept hown fun q hq => by
   injection hq with hq
   subst hq
   exact Below.heap_setCell _ _ _ _ hne
 ·have h1 : q ≠ bo := fun e => hqT (e ▸ hbT)
  have h2 : q ≠ g := fun e => by
   rcases hgT with h3 | h3
   ·exact hqT (e ▸ h3)
   ·omega
  exact (Below.heap_setCell _ _ _ _ h1).trans (hg.block q (Nat.lt_of_lt_of_le hq hm) (fun e => h2 (Option.some.inj e)))
abbrev markD (D : Nat) : Deferred := { target := .collected D, args := #[] }
theorem leaves_marks {F : Fence} {n : Nat} {fn : Func} {tmps : Array Value} {R : Ending → World → Prop} : ∀ (ds : List Nat) (w : World), ds.Nodup → (∀ D ∈ ds, w.heap[D]? = some (.deferred (some []))) →
  (∀ w', (∀ g, g ∉ ds → w'.heap[g]? = w.heap[g]?) → w'.heap.size = w.heap.size → w'.os = w.os → w'.tape = w.tape → w'.output = w.output → LeavesIn F n Tryz.prog fn tmps R [] .returning w') →
  LeavesInM F n Tryz.prog fn tmps R (ds.map markD) .returning w
 | [], w, _, _, h => h w (fun _ _ => rfl) rfl rfl rfl rfl
 | D :: ds, w, hn, hd, h => by
  obtain ⟨n1, n2⟩ := List.nodup_cons.1 hn
  refine ⟨by simp, .inl ⟨D, _, rfl, run_takeDeferred (hd D (by simp)), ?_⟩⟩
  refine leaves_marks ds _ n2 (fun E hE => ?_) fun w' a1 a2 a3 a4 a5 => h w' (fun g hg => ?_) ?_ a3 a4 a5
  ·have hne : E ≠ D := fun e => n1 (e ▸ hE)
   rw [World.putObj_heap_other (by omega)]
   exact hd E (by simp [hE])
  ·have hne : g ≠ D := fun e => hg (by simp [e])
   rw [a1 g (fun hm => hg (by simp [hm])), World.putObj_heap_other (by omega)]
  ·rw [a2]; simp
end Go.Proofs.YticmnfmijdgmbaaGreatDoor

/- The document's own answer: may a grammar be? -/
namespace Go.Proofs.YticmnfmijdgmbaaGreatDoor
open Go Go.RowKit Go.Lib
theorem mem_getD {l : List Int} {k : Nat} (h : k < l.length) : l.getD k 0 ∈ l := by
 rw [List.getD_eq_getElem?_getD, List.getElem?_eq_getElem h]; exact List.getElem_mem _
theorem valid_parts {G : GD} (h : validB G = true) : G.terms.length ≤ 60 ∧ G.sorts.length ≤ 60 ∧ G.prods.length ≤ 120 ∧ G.prods.all (prodB G.terms.length G.sorts.length) = true ∧ G.over.all (pairB G.terms.length) = true ∧ (0 ≤ G.start ∧ G.start < G.sorts.length) ∧
  riseB G.sorts = true ∧ riseB (G.prods.map (·.lab)) = true ∧ riseB G.terms = true := by
 unfold validB at h
 simp only [Bool.and_eq_true, decide_eq_true_eq] at h
 obtain ⟨⟨⟨⟨⟨h1, h2⟩, h3⟩, h4⟩, h5⟩, ⟨⟨h6, h7⟩, h8⟩, h9⟩ := h
 exact ⟨h1, h2, h3, h4, h5, h6, h7, h8, h9⟩
end Go.Proofs.YticmnfmijdgmbaaGreatDoor

/- What a closing of items may come to: sorts that begin, how many items. -/
namespace Go.Proofs.YticmnfmijdgmbaaGreatDoor
open Go Go.RowKit Go.Lib
open X14 (It thereX behX beginX rightX sortX IsClose Clos)
set_option linter.unusedVariables false
set_option linter.unusedSimpArgs false
theorem beh_sort {G : GD} {x : It} {s : Int} (hv : validB G = true) (hb : behX G x = some s) (hs : s < 0) : -1 - s < (G.sorts.length : Int) ∧ 0 ≤ -1 - s := by
 refine ⟨?_, by omega⟩
 have ht := X14.there_iff.1 (X14.beh_there hb)
 unfold X14.behX at hb
 rw [if_pos (X14.beh_there (by unfold X14.behX; exact hb))] at hb
 obtain ⟨hlt, he⟩ := List.getElem?_eq_some_iff.1 hb
 obtain ⟨_, _, _, hp, _, hst, _⟩ := valid_parts hv
 have hmem : s ∈ rightX G x.1 := by rw [← he]; exact List.getElem_mem hlt
 by_cases h1 : x.1 = -1
 ·have e : rightX G x.1 = [-1 - G.start] := by unfold X14.rightX; rw [if_pos h1]
  rw [e] at hmem
  have : s = -1 - G.start := by simpa using hmem
  omega
 ·have e : rightX G x.1 = (G.prods.getD x.1.toNat default).rs := by unfold X14.rightX; rw [if_neg h1]
  rw [e] at hmem
  have hlp : x.1.toNat < G.prods.length := by omega
  have hpm : G.prods.getD x.1.toNat default ∈ G.prods := by
   rw [List.getD_eq_getElem?_getD, List.getElem?_eq_getElem hlp]
   exact List.getElem_mem hlp
  have hq := List.all_eq_true.1 hp _ hpm
  unfold prodB at hq
  simp only [Bool.and_eq_true, decide_eq_true_eq] at hq
  have hsy := List.all_eq_true.1 hq.2 s hmem
  unfold symB at hsy
  have := of_decide_eq_true hsy
  omega
def cntB (G : GD) (begun : Nat → Bool) : Nat := ((List.range G.prods.length).filter fun p => decide (0 ≤ sortX G p) && begun (sortX G p).toNat).length
theorem cntB_le (G : GD) (begun : Nat → Bool) : cntB G begun ≤ G.prods.length := by
 unfold cntB
 exact Nat.le_trans (List.length_filter_le _ _) (by simp)
theorem filter_or {α : Type} (f g h : α → Bool) (hd : ∀ x, f x = true → g x = true → False) (he : ∀ x, h x = (f x || g x)) : ∀ l : List α, (l.filter h).length = (l.filter f).length + (l.filter g).length
 | [] => rfl
 | x :: l => by
  have ih := filter_or f g h hd he l
  have hx := he x
  have hdx := hd x
  cases hf : f x <;> cases hg : g x <;> rw [hf, hg] at hx <;> simp only [Bool.or_false, Bool.or_true, Bool.false_or, Bool.true_or] at hx <;> simp [List.filter_cons, hx, hf, hg, ih]
  ·omega
  ·omega
  ·exact (hdx hf hg).elim
theorem cntB_begin {G : GD} {begun : Nat → Bool} {t : Nat} (hb : begun t = false) : cntB G (fun k => if k = t then true else begun k) = cntB G begun + (beginX G t G.prods.length).length := by
 unfold cntB X14.beginX
 rw [List.length_map]
 refine filter_or (fun p => decide (0 ≤ sortX G p) && begun (sortX G p).toNat) (fun p => sortX G p == (t : Int)) _ (fun p h1 h2 => ?_) (fun p => ?_) _
 ·simp only [Bool.and_eq_true, decide_eq_true_eq] at h1
  have h3 : sortX G p = (t : Int) := by simpa using h2
  rw [h3, Int.toNat_natCast, hb] at h1
  exact absurd h1.2 (by decide)
 ·by_cases h3 : sortX G p = (t : Int)
  ·rw [h3]
   simp
  ·have h4 : (sortX G p == (t : Int)) = false := by simpa using h3
   rw [h4, Bool.or_false]
   by_cases h0 : 0 ≤ sortX G p
   ·show (_ && (if (sortX G p).toNat = t then true else begun _)) = _
    rw [if_neg (by omega)]
   ·simp [h0]
theorem cntB_none (G : GD) : cntB G (fun _ => false) = 0 := by
 unfold cntB
 simp
theorem clos_start (G : GD) (l : List It) : Clos G l (l.filter (thereX G)) (fun _ => false) 0 :=
 ⟨fun x hx => .base x (List.mem_filter.1 hx).1 (List.mem_filter.1 hx).2, fun x hx ht => List.mem_filter.2 ⟨hx, ht⟩, fun _ _ h => (by cases h), fun j _ _ hj => absurd hj (Nat.not_lt_zero j)⟩
structure InvS (G : GD) (l : List It) (w0 wr : World) (bG bo bb : Nat) (gb : Array Value) (O : List It) (g c : Nat) (begun : Nat → Bool) (i : Nat) (ds : List Nat) : Prop where
 out : Out w0 wr bo O g c
 box : wr.heap[bG]? = some (.cells gb 27 (0, 0))
 bools : wr.heap[bb]? = some (.cells ((Array.range G.sorts.length).map fun k => .bool (begun k)) 4 (0, 0))
 clos : Clos G l O begun i
 len : O.length ≤ l.length + cntB G begun
 le : i ≤ O.length
 gG : g ≠ bG
 gb : g ≠ bb
 nd : ds.Nodup
 dge : ∀ D ∈ ds, w0.heap.size ≤ D
 ds : ∀ D ∈ ds, wr.heap[D]? = some (.deferred (some []))
theorem InvS.below {G : GD} {l : List It} {w0 wr W : World} {bG bo bb : Nat} {gb : Array Value} {O : List It} {g c : Nat} {begun : Nat → Bool} {i : Nat} {ds : List Nat} (h : InvS G l w0 wr bG bo bb gb O g c begun i ds) (hb : Below wr.heap.size wr W) : InvS G l w0 W bG bo bb gb O g c begun i ds :=
 ⟨h.out.below hb, (hb.block _ (Array.getElem?_eq_some_iff.1 h.box).1).trans h.box, (hb.block _ (Array.getElem?_eq_some_iff.1 h.bools).1).trans h.bools, h.clos, h.len, h.le, h.gG, h.gb, h.nd, h.dge, fun D hD => (hb.block _ (Array.getElem?_eq_some_iff.1 (h.ds D hD)).1).trans (h.ds D hD)⟩
theorem InvS.dne {G : GD} {l : List It} {w0 wr : World} {bG bo bb : Nat} {gb : Array Value} {O : List It} {g c : Nat} {begun : Nat → Bool} {i : Nat} {ds : List Nat} (h : InvS G l w0 wr bG bo bb gb O g c begun i ds) {D : Nat} (hD : D ∈ ds) : D ≠ g ∧ D ≠ bo ∧ D ≠ bb := by
 have e := h.ds D hD
 refine ⟨fun hx => ?_, fun hx => ?_, fun hx => ?_⟩
 ·rcases h.out.own.2 with ⟨e1, _⟩ | ⟨g', cap, cur, e1, _, e2, _⟩
  ·cases e1
  ·obtain rfl : g = g' := by injection e1 with e1; injection e1 with e1; injection e1
   rw [← hx, e] at e2
   cases e2
 ·have e2 := h.out.box
  rw [← hx, e] at e2
  cases e2
 ·have e2 := h.bools
  rw [← hx, e] at e2
  cases e2
theorem InvS.mark {G : GD} {l : List It} {w0 wr : World} {bG bo bb : Nat} {gb : Array Value} {O : List It} {g c : Nat} {begun : Nat → Bool} {i : Nat} {ds : List Nat} (h : InvS G l w0 wr bG bo bb gb O g c begun i ds) (t : Nat) (hG : bG ≠ bb) (ho : bo ≠ bb) (hw : w0.heap.size ≤ bb) :
  Out w0 (wr.setCell ⟨bb, t, none⟩ (.bool true)) bo O g c ∧ (wr.setCell ⟨bb, t, none⟩ (.bool true)).heap[bG]? = some (.cells gb 27 (0, 0)) ∧
   (wr.setCell ⟨bb, t, none⟩ (.bool true)).heap[bb]? = some (.cells ((Array.range G.sorts.length).map fun k => .bool ((fun k => if k = t then true else begun k) k)) 4 (0, 0)) ∧ ∀ D ∈ ds, (wr.setCell ⟨bb, t, none⟩ (.bool true)).heap[D]? = some (.deferred (some [])) := by
 have hk : ∀ q, q ≠ bb → (wr.setCell ⟨bb, t, none⟩ (.bool true)).heap[q]? = wr.heap[q]? := fun q hq => Below.heap_setCell _ _ _ _ hq
 refine ⟨h.out.keep (hk _ ho) (hk _ h.gb) (h.out.bel.setCell hw _), (hk _ hG).trans h.box, ?_, fun D hD => (hk _ (h.dne hD).2.2).trans (h.ds D hD)⟩
 have e : ((Array.range G.sorts.length).map fun k => Value.bool (begun k)).setIfInBounds t (.bool true) = (Array.range G.sorts.length).map fun k => Value.bool ((fun k => if k = t then true else begun k) k) := by
  refine Array.ext (by simp) fun k h1 h2 => ?_
  have h3 : k < ((Array.range G.sorts.length).map fun k => Value.bool (begun k)).size := by simpa using h1
  rw [Array.getElem_setIfInBounds h3, Array.getElem_map, Array.getElem_map, Array.getElem_range]
  by_cases hkt : t = k
  ·simp [hkt]
  ·have : ¬ k = t := fun e => hkt e.symm
   simp [hkt, this]
 rw [heap_setCell_same _ bb t _ 4 _ h.bools, e]
end Go.Proofs.YticmnfmijdgmbaaGreatDoor

/- Items that a range over what begins puts on a row. -/
namespace Go.Proofs.YticmnfmijdgmbaaGreatDoor
open Go Go.RowKit Go.Lib
open X14 (It)
set_option linter.unusedVariables false
set_option linter.unusedSimpArgs false
def BgI (w wS : World) (bo g1 : Nat) (O : List It) (pre : List It) (W : World) : Prop := ∃ g c, Out w W bo (O ++ pre) g c ∧ KeptT wS.heap.size [bo, g1] wS W ∧ (g = g1 ∨ wS.heap.size ≤ g)
theorem out_cells {w W : World} {bo g c : Nat} {O : List It} (h : Out w W bo O g c) : ∃ cur, W.heap[g]? = some (.cells cur 60 (0, 0)) := by
 rcases h.own.2 with ⟨e1, _⟩ | ⟨g', cap, cur, e1, _, e2, _⟩
 ·cases e1
 ·obtain rfl : g = g' := by injection e1 with e1; injection e1 with e1; injection e1
  exact ⟨_, e2⟩
theorem bgI_own {w wS : World} {bo g1 : Nat} {O : List It} (hw : w.heap.size ≤ wS.heap.size) : OwnFrom wS.heap.size (BgI w wS bo g1 O) := by
 rintro pre W W' row ⟨g, c, h1, h2, h3⟩ hg hr
 obtain ⟨cur, hcur⟩ := out_cells h1
 have ho : row ≠ some bo := fun e => by
  obtain ⟨_, o, ho, hc⟩ := hr bo e
  rw [h1.box] at ho
  obtain rfl := Option.some.inj ho
  cases hc
 have hgg : row ≠ some g := fun e => by
  obtain ⟨_, o, ho, hc⟩ := hr g e
  rw [hcur] at ho
  obtain rfl := Option.some.inj ho
  cases hc
 refine ⟨g, c, h1.keep (hg.block bo h1.lt.2.2 (fun e => ho e.symm)) (hg.block g h1.lt.2.1 (fun e => hgg e.symm)) (h1.bel.grown hg h1.bel.size (fun k e => ?_)), h2.trans ⟨hg.os, hg.tape, hg.output, hg.size, fun q hq hqT => hg.block q (Nat.lt_of_lt_of_le hq h2.size) fun e => ?_⟩, h3⟩
 ·exact Nat.le_trans hw (hr k e).1
 ·have := (hr q e.symm).1
  omega
theorem bg_push {w wS W W6 w7 : World} {bo g1 g c : Nat} {O pre : List It} {x : It} {v' : Value} (h : Out w W6 bo (O ++ pre) g c) (hk : KeptT wS.heap.size [bo, g1] wS W) (hb6 : Below W.heap.size W W6) (h3 : g = g1 ∨ wS.heap.size ≤ g)
  (hown : w7.ownsRow w.heap.size 60 2 v' ((O ++ pre).length + 1) (icells (O ++ pre) ++ [.int .i64 x.1, .int .i64 x.2])) (hg : W6.grownBy w7 (some g)) (hat : v'.ownBlock = some g ∨ v'.ownBlock = some W6.heap.size) :
  ∃ g' c', v' = .slice (some ⟨g', 0, none⟩) ((O ++ pre).length + 1) c' ∧ w7.heap[bo]? = some (.cells #[.slice (some ⟨g, 0, none⟩) (O ++ pre).length c] 45 (0, 0)) ∧
   KeepsFrom wS.heap.size W (w7.setCell ⟨bo, 0, none⟩ v') ∧ KeptT wS.heap.size [bo, g1] W (w7.setCell ⟨bo, 0, none⟩ v') ∧ BgI w wS bo g1 O (pre ++ [x]) (w7.setCell ⟨bo, 0, none⟩ v') := by
 obtain ⟨cur, hcur⟩ := out_cells h
 obtain ⟨g', c', rfl, hbo, hO, hg', hkk⟩ := h.push (x := x) hown hg hat
 have hs := hk.size
 have hs6 := hb6.size
 have hK1 := hkk wS.heap.size [bo, g1] (by omega) (by simp) (h3.imp (fun e => by simp [e]) id)
 have hK2 : KeptT wS.heap.size [bo, g1] W (w7.setCell ⟨bo, 0, none⟩ (.slice (some ⟨g', 0, none⟩) ((O ++ pre).length + 1) c')) := ((KeptT.refl _ _ W).below hs hb6).trans hK1
 have hK3 := hkk W6.heap.size [bo, g] (Nat.le_refl _) (by simp) (.inl (by simp))
 refine ⟨g', c', rfl, hbo, ⟨hK2.size, fun k o hk1 ho hc => ?_⟩, hK2, g', c', by rw [← List.append_assoc]; exact hO, hk.trans hK2, ?_⟩
 ·have hlt := (Array.getElem?_eq_some_iff.1 ho).1
  have h6 := (hb6.block k hlt).trans ho
  refine (hK3.block k (by omega) (fun hm => ?_)).trans h6
  simp only [List.mem_cons, List.not_mem_nil, or_false] at hm
  rcases hm with e | e
  ·subst e; rw [h.box] at h6; obtain rfl := Option.some.inj h6; cases hc
  ·subst e; rw [hcur] at h6; obtain rfl := Option.some.inj h6; cases hc
 ·rcases hg' with e | e
  ·rw [e]; exact h3
  ·right; omega
theorem wpListIn_push37 {F : Fence} {nF : Nat} {ops : Array Oper} {rest : List Oper} {o : Oper} {a : Act} {w : World} {Q : Exit → Act → World → Prop} (hgd : o.guard = none) (s x : Operand) (ho : o.op = .call { callee := .builtin .append, args := #[s, x], argTypes := #[45, 45] })
  (base : Nat) (v : Value) (n : Nat) (xs : List Value) (hs : a.eval s = v) (hown : w.ownsRow base 60 2 v n xs) (g : Nat) (hx : a.eval x = .slice (some ⟨g, 0, none⟩) 1 1) (p q : Int) (hb : w.heap[g]? = some (.cells #[.int .i64 p, .int .i64 q] 60 (0, 0))) (hn : n ≤ 1000000) (hbase : base ≤ w.heap.size)
  (h : ∀ v' w', w'.ownsRow base 60 2 v' (n + 1) (xs ++ [.int .i64 p, .int .i64 q]) → w.grownBy w' v.ownBlock → (v'.ownBlock = v.ownBlock ∨ v'.ownBlock = some w.heap.size) → wpListIn F nF Tryz.prog ops Q rest (a.put o.dst v') w') : wpListIn F nF Tryz.prog ops Q (o :: rest) a w := by
 obtain ⟨i, hi, h0, h1, h2⟩ := info_parts info37
 refine wpListIn_append_own_at w hgd s x 45 ho base 60 i _ 2 16 Tryz.underlying45 hi h0 h1 h2 rfl (by decide) v n xs hs hown ⟨g, 0, none⟩ 1 1 [.int .i64 p, .int .i64 q] hx rfl (fun j u hj => ?_) (fun u hu => ?_) (by unfold maxLen; omega) ?_ hbase (fun v' w' a1 a2 _ a4 => h v' w' a1 a2 a4)
 ·rw [add_one_cell, Nat.zero_add, Lib.cell_of_heap hb, ← hj]
  simp
 ·simp at hu; rcases hu with rfl | rfl <;> rfl
 ·omega
end Go.Proofs.YticmnfmijdgmbaaGreatDoor
