/- The items at the beginning of each production of a sort, one by one. -/
import Derived.RangeFuncNested
import Derived.RangeFuncBound
import Derived.RangeFuncLeaves
import Derived.Shelf.Abstract
import Derived.Shelf.RegionOpen
import Derived.WalkKit
import Derived.OwnWalkIn
import Derived.TacticsInMore
import Derived.LoopNIn
import Derived.LoopIn
import Derived.Outline
import Derived.Deep.DeepMust
import Derived.Test.YtjpbhbfklkipkaaDoorSd
namespace Go.Proofs.YtjpbhbfklkipkaaDoor
open Go Go.RowKit Go.Shelf Go.Lib
open X14 (It beginX sortX)
attribute [local go_sem] Oper.semAt_some
set_option linter.unusedVariables false
set_option linter.unusedSimpArgs false
theorem cell1 {w : World} {b : Nat} {v : Value} {e : TypeId} (h : w.heap[b]? = some (.cells #[v] e (0, 0))) : w.cell? ⟨b, 0, none⟩ = some v := Lib.cell_of_heap h 0
/-- All old blocks but these are as they were. -/
structure KeptT (m : Nat) (T : List Nat) (W W' : World) : Prop where
  os : W'.os = W.os
  tape : W'.tape = W.tape
  output : W'.output = W.output
  size : W.heap.size ≤ W'.heap.size
  block : ∀ g, g < m → g ∉ T → W'.heap[g]? = W.heap[g]?
theorem KeptT.refl (m : Nat) (T : List Nat) (W : World) : KeptT m T W W := ⟨rfl, rfl, rfl, Nat.le_refl _, fun _ _ _ => rfl⟩
theorem KeptT.trans {m : Nat} {T : List Nat} {A B C : World} (h : KeptT m T A B) (k : KeptT m T B C) : KeptT m T A C := ⟨k.os.trans h.os, k.tape.trans h.tape, k.output.trans h.output, Nat.le_trans h.size k.size, fun g h1 h2 => (k.block g h1 h2).trans (h.block g h1 h2)⟩
theorem KeptT.below {m : Nat} {T : List Nat} {A B C : World} (h : KeptT m T A B) (hm : m ≤ B.heap.size) (k : Below B.heap.size B C) : KeptT m T A C := h.trans ⟨k.os, k.tape, k.output, k.size, fun g h1 _ => k.block g (by omega)⟩
theorem KeptT.bel {m n : Nat} {T : List Nat} {A B C : World} (h : KeptT m T B C) (k : Below n A B) (hn : n ≤ m) (hb : ∀ b ∈ T, n ≤ b) : Below n A C := ⟨h.os.trans k.os, h.tape.trans k.tape, h.output.trans k.output, Nat.le_trans k.size h.size, fun g hg => (h.block g (by omega) (fun hm => by have := hb g hm; omega)).trans (k.block g hg)⟩
theorem set_four {W : World} {b : Nat} {a0 a1 a2 a3 : Value} {e : TypeId} (h : W.heap[b]? = some (.cells #[a0, a1, a2, a3] e (0, 0))) (x0 x1 x2 x3 : Value) :
    ((((W.setCell ⟨b, 0, none⟩ x0).setCell ⟨b, 1, none⟩ x1).setCell ⟨b, 2, none⟩ x2).setCell ⟨b, 3, none⟩ x3).heap[b]? = some (.cells #[x0, x1, x2, x3] e (0, 0)) ∧ ∀ {m : Nat}, KeptX m b W ((((W.setCell ⟨b, 0, none⟩ x0).setCell ⟨b, 1, none⟩ x1).setCell ⟨b, 2, none⟩ x2).setCell ⟨b, 3, none⟩ x3) := by
  have h1 : (W.setCell ⟨b, 0, none⟩ x0).heap[b]? = some (.cells #[x0, a1, a2, a3] e (0, 0)) := heap_setCell_same W b 0 #[a0, a1, a2, a3] e x0 h
  have h2 := heap_setCell_same _ b 1 #[x0, a1, a2, a3] e x1 h1
  have h3 := heap_setCell_same _ b 2 #[x0, x1, a2, a3] e x2 h2
  have h4 := heap_setCell_same _ b 3 #[x0, x1, x2, a3] e x3 h3
  refine ⟨h4, fun {m} => ⟨rfl, rfl, rfl, by simp, fun g _ hg => ?_⟩⟩
  exact (Below.heap_setCell _ _ _ _ hg).trans ((Below.heap_setCell _ _ _ _ hg).trans ((Below.heap_setCell _ _ _ _ hg).trans (Below.heap_setCell _ _ _ _ hg)))
def encB (x : It) : Array Value := #[.agg #[.int .i64 x.1, .int .i64 x.2]]

set_option maxRecDepth 100000 in
theorem begins_in (n : Nat) (tv ov sv pv : Value) (st t : Int) (w : World) :
    CallsIn Fence.wide n Tryd.prog 45 #[.agg #[tv, ov, sv, pv, .int .i64 st], .int .i64 t] w fun e w' => e = .returned (.func (.func 49) #[] #[.pointer (some ⟨w.heap.size, 0, none⟩), .pointer (some ⟨w.heap.size + 1, 0, none⟩)]) ∧ w' = (w.alloc (.cells #[tv, ov, sv, pv, .int .i64 st] 27)).alloc (.cells #[.int .i64 t] 3) := by
  refine callsIn_of_wp Tryd.func45 rfl trivial ?_ rfl
  simp only [Tryd.ntmps45, List.size_toArray, List.length_cons, List.length_nil, Nat.reduceAdd, Nat.reduceSub, Array.replicate_succ, Array.replicate_zero, List.push_toArray, List.append_toArray, List.nil_append, List.cons_append]
  gi_wp2
  go_ret
  exact ⟨rfl, rfl⟩

set_option maxRecDepth 100000 in
set_option maxHeartbeats 8000000 in
theorem begins_seq (n : Nat) (hn : 1 ≤ n) {G : GD} {tv ov sv pv : Value} (w0 : World) (hG : Gram w0 (.agg #[tv, ov, sv, pv, .int .i64 G.start]) G) (hp : G.prods.length ≤ 1000) (T : List Nat) (bG bS t : Nat) (wS : World) (hw : Below w0.heap.size w0 wS)
    (h4 : wS.heap[bG]? = some (.cells #[tv, ov, sv, pv, .int .i64 G.start] 27 (0, 0))) (hS : wS.heap[bS]? = some (.cells #[.int .i64 (t : Int)] 3 (0, 0))) (hT : ∀ b ∈ T, w0.heap.size ≤ b ∧ b ≠ bG ∧ b ≠ bS) (h0S : w0.heap.size ≤ wS.heap.size) :
    SeqStopsK Fence.wide n Tryd.prog 49 #[.pointer (some ⟨bG, 0, none⟩), .pointer (some ⟨bS, 0, none⟩)] encB (KeptT wS.heap.size T) (fun xs => xs = beginX G t G.prods.length) (fun _ => True) (G.prods.length + 1) wS := fun l J Jx W hW hJ hJx hY h0 => by
  have HY := hid hY
  have HJ0 := hid hJ
  have HKW := hid ((KeptT.refl wS.heap.size T wS).below (Nat.le_refl _) hW)
  have l4 := (Array.getElem?_eq_some_iff.1 h4).1
  have lS := (Array.getElem?_eq_some_iff.1 hS).1
  have HB := hid (fun (wr : World) (h : KeptT wS.heap.size T wS wr) => And.intro ((h.block bG l4 (fun hm => (hT bG hm).2.1 rfl)).trans h4) (And.intro ((h.block bS lS (fun hm => (hT bS hm).2.2 rfl)).trans hS) (hG.below (h.bel hw h0S (fun b hb => (hT b hb).1)))))
  have HM := hid (fun (wr : World) (h : KeptT wS.heap.size T wS wr) => h.size)
  obtain ⟨tv', ov', sv', pv', tf, rv, hgr⟩ := hG
  have hpv := hgr.prods
  have heq := hgr.eq
  injection heq with heq
  injection heq with heq
  simp only [List.cons.injEq, and_true] at heq
  obtain ⟨rfl, rfl, rfl, rfl⟩ := heq
  obtain ⟨pa, pc, rfl, hpn, _⟩ := hpv
  obtain ⟨np, hnp⟩ : ∃ np, G.prods.length = np := ⟨_, rfl⟩
  have HNP := hid hnp
  rw [hnp] at hp hpn h4 HB ⊢
  clear hgr h4 hS hT hw l4 lS hJ hJx hY hnp hW
  refine callsIn_of_wp Tryd.func49 rfl trivial ?_ rfl
  simp only [Tryd.ntmps49, List.size_toArray, List.length_cons, List.length_nil, Nat.reduceAdd, Nat.reduceSub, Array.replicate_succ, Array.replicate_zero, List.push_toArray, List.append_toArray, List.nil_append, List.cons_append]
  have c3 : W.cell? ⟨bG, 3, none⟩ = some (.slice pa np pc) := Lib.cell_of_heap (HB.out W HKW.out).1 3
  gi_wp2
  clear c3
  gi_loopw [4, 5, 9] (fun i4 i5 i9 wr => ∃ j : Nat, j ≤ np ∧ i9 = .int .i64 (j : Int) ∧ Hid (KeptT wS.heap.size T wS wr) ∧ Hid (J (beginX G t j) wr)) (fun _ _ i9 _ => np - (intOf i9).toNat)
  case atStart => exact ⟨0, Nat.zero_le _, rfl, HKW, hid h0⟩
  case round =>
    obtain ⟨j, hj, rfl, HK, HJ⟩ := hrel
    have hle := HM.out wr HK.out
    by_cases hlt : j < np
    · have t1 : (j : Int) < (np : Int) := by omega
      have t2 : (0 : Int) ≤ (j : Int) := by omega
      obtain ⟨hb4, hbS, hgw⟩ := HB.out wr HK.out
      obtain ⟨tv', ov', sv', pv', tf, rv, hgr⟩ := hgw
      have heq := hgr.eq
      injection heq with heq
      injection heq with heq
      simp only [List.cons.injEq, and_true] at heq
      obtain ⟨rfl, rfl, rfl, rfl⟩ := heq
      have hjp : j < G.prods.length := by rw [HNP.out]; exact hlt
      obtain ⟨pa', pc', he, _, hcs⟩ := hgr.prods
      injection he with he1 he2 he3
      subst he1
      obtain ⟨pb, po, hpe, hcq⟩ := hcs (by omega)
      subst hpe
      obtain ⟨q0, q1, q2, q3⟩ := hcq j hjp
      obtain ⟨⟨ra, rc, hrv, _, _⟩, _⟩ := hgr.rights j hjp
      rw [hrv] at q2
      obtain ⟨rn, hrn⟩ : ∃ rn, (G.prods.getD j default).rs.length = rn := ⟨_, rfl⟩
      rw [hrn] at q2
      obtain ⟨lab, hlab⟩ : ∃ lab, (G.prods.getD j default).lab = lab := ⟨_, rfl⟩
      rw [hlab] at q0
      obtain ⟨so, hso⟩ : ∃ so, (G.prods.getD j default).sort = so := ⟨_, rfl⟩
      rw [hso] at q1
      have HSO := hid (show sortX G j = so from hso)
      obtain ⟨cl, hcl⟩ : ∃ cl, (G.prods.getD j default).cls = cl := ⟨_, rfl⟩
      rw [hcl] at q3
      obtain ⟨wx, ex⟩ : ∃ wx, wr.alloc (.cells #[.string ⟨#[]⟩, .int .i64 0, .slice none 0 0, .int .i64 0] 64) = wx := ⟨_, rfl⟩
      have hbx : Below wr.heap.size wr wx := by rw [← ex]; exact (Below.refl _ _).alloc (Nat.le_refl _) _
      have nx : wx.heap[wr.heap.size]? = some (.cells #[.string ⟨#[]⟩, .int .i64 0, .slice none 0 0, .int .i64 0] 64 (0, 0)) := by rw [← ex]; exact new_block _ _
      obtain ⟨wa, ea⟩ : ∃ wa, wx.setCell ⟨wr.heap.size, 0, none⟩ (.string lab) = wa := ⟨_, rfl⟩
      obtain ⟨wb, eb⟩ : ∃ wb, wa.setCell ⟨wr.heap.size, 1, none⟩ (.int .i64 so) = wb := ⟨_, rfl⟩
      obtain ⟨wc, ec⟩ : ∃ wc, wb.setCell ⟨wr.heap.size, 2, none⟩ (.slice ra rn rc) = wc := ⟨_, rfl⟩
      obtain ⟨wd, ed⟩ : ∃ wd, wc.setCell ⟨wr.heap.size, 3, none⟩ (.int .i64 cl) = wd := ⟨_, rfl⟩
      have na : wa.heap[wr.heap.size]? = some (.cells #[.string lab, .int .i64 0, .slice none 0 0, .int .i64 0] 64 (0, 0)) := by rw [← ea]; exact heap_setCell_same _ _ 0 _ 64 _ nx
      have nb : wb.heap[wr.heap.size]? = some (.cells #[.string lab, .int .i64 so, .slice none 0 0, .int .i64 0] 64 (0, 0)) := by rw [← eb]; exact heap_setCell_same _ _ 1 _ 64 _ na
      have nc : wc.heap[wr.heap.size]? = some (.cells #[.string lab, .int .i64 so, .slice ra rn rc, .int .i64 0] 64 (0, 0)) := by rw [← ec]; exact heap_setCell_same _ _ 2 _ 64 _ nb
      have nd : wd.heap[wr.heap.size]? = some (.cells #[.string lab, .int .i64 so, .slice ra rn rc, .int .i64 cl] 64 (0, 0)) := by rw [← ed]; exact heap_setCell_same _ _ 3 _ 64 _ nc
      have hbd : Below wr.heap.size wr wd := by
        rw [← ed, ← ec, ← eb, ← ea]
        exact (((hbx.setCell (Nat.le_refl _) _).setCell (Nat.le_refl _) _).setCell (Nat.le_refl _) _).setCell (Nat.le_refl _) _
      have c0 : wx.cell? ⟨wr.heap.size, 0, none⟩ = some (.string ⟨#[]⟩) := Lib.cell_of_heap nx 0
      have f0 := Lib.frozen_of_heap nx 0
      have c1 : wa.cell? ⟨wr.heap.size, 1, none⟩ = some (.int .i64 0) := Lib.cell_of_heap na 1
      have f1 := Lib.frozen_of_heap na 1
      have c2 : wb.cell? ⟨wr.heap.size, 2, none⟩ = some (.slice none 0 0) := Lib.cell_of_heap nb 2
      have f2 := Lib.frozen_of_heap nb 2
      have c3 : wc.cell? ⟨wr.heap.size, 3, none⟩ = some (.int .i64 0) := Lib.cell_of_heap nc 3
      have f3 := Lib.frozen_of_heap nc 3
      have cd : wd.cell? ⟨wr.heap.size, 1, none⟩ = some (.int .i64 so) := Lib.cell_of_heap nd 1
      have cS : wd.cell? ⟨bS, 0, none⟩ = some (.int .i64 (t : Int)) := cell_bel hbd (Array.getElem?_eq_some_iff.1 hbS).1 (cell1 hbS)
      have HK2 := hid (HK.out.below hle hbd)
      have HJ2 := hid (HJ0.out _ _ _ none HJ.out ⟨hbd.os, hbd.tape, hbd.output, hbd.size, fun g hg _ => hbd.block g hg⟩ (fun r e => by cases e))
      clear hgr hcs hcq hrv hrn hlab hso hcl hbx nx na nb nc nd hbd hb4 hbS he2 he3 HJ HK
      by_cases hst : so = (t : Int)
      · have hpre := X14.beginX_succ G t j
        rw [HSO.out, if_pos hst] at hpre
        obtain ⟨fn, tmps, assign, body, hy, hR⟩ := HY.out _ ((j : Int), 0) wd HJ2.out (by
          have : (beginX G t j).length ≤ j := by
            unfold X14.beginX
            rw [List.length_map]
            exact Nat.le_trans (List.length_filter_le _ _) (by simp)
          have := HNP.out
          omega)
        rw [← hpre] at hR
        have hen : encB ((j : Int), 0) = #[.agg #[.int .i64 (j : Int), .int .i64 0]] := rfl
        rw [hen] at hy
        have HR := hid hR
        have t0 : (so == (t : Int)) = true := by simpa using hst
        clear hR hen hpre
        subst hst
        gi_wp2_with fail
        refine HR.out.mono ?_
        rintro e W3 (⟨rfl, hJ3, hk3⟩ | ⟨rfl, hJx3⟩)
        · have HJ3 := hid hJ3
          have HK3 := hid (HK2.out.trans hk3)
          clear hJ3 hk3 c0 c1 c2 c3 f0 f1 f2 f3 cd cS q0 q1 q2 q3 ex ea eb ec ed hy
          gi_wp2_with fail
          refine ⟨⟨j + 1, by omega, rfl, HK3, HJ3⟩, ?_⟩
          show np - ((j : Int) + 1).toNat < np - ((j : Int)).toNat
          omega
        · gi_wp2_with fail
          refine bodyPost_ret (results_none rfl _ _ _) rfl ?_
          exact ⟨⟨_, rfl⟩, .inr ⟨_, trivial, hJx3⟩⟩
      · have t0 : (so == (t : Int)) = false := by simpa using hst
        have hpre := X14.beginX_succ G t j
        rw [HSO.out, if_neg hst, List.append_nil] at hpre
        have HP := hid hpre
        clear hpre
        have HJ3 := hid (show J (beginX G t (j + 1)) wd from by rw [HP.out]; exact HJ2.out)
        gi_wp2_with fail
        first
          | refine ⟨fun _ h => (by cases h), ?_⟩
          | skip
        gi_wp2_with fail
        refine ⟨⟨j + 1, by omega, rfl, HK2, HJ3⟩, ?_⟩
        show np - ((j : Int) + 1).toNat < np - ((j : Int)).toNat
        omega
    · have t1 : ¬ (j : Int) < (np : Int) := by omega
      have hjj : j = np := by omega
      have HJJ := hid hjj
      clear hjj
      gi_wp2_with fail
      go_end0
      have hend := HJ.out
      rw [HJJ.out] at hend
      first
        | exact ⟨⟨_, rfl⟩, .inl ⟨_, rfl, hend⟩⟩
        | exact ⟨⟨_, rfl⟩, .inl hend⟩
end Go.Proofs.YtjpbhbfklkipkaaDoor
