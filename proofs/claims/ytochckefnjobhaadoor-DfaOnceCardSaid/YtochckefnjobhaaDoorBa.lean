/- slices.Backward at regexes: what it hands to a loop's body, from the last one to the first. -/
import Derived.RangeFuncNested
import Derived.RangeFuncBound
import Derived.RangeFuncLeaves
import Derived.Shelf.Abstract
import Derived.Shelf.RegionOpen
import Derived.WalkKit
import Derived.OwnWalkIn
import Derived.TacticsInMore
import Derived.LoopNIn
import Derived.LoopIn
import Derived.WalkSmall
import Derived.Lib.Hide
import Derived.Outline
import Derived.Test.YtochckefnjobhaaDoorSa
set_option linter.unusedVariables false
set_option linter.unusedSimpArgs false
namespace Go.Proofs.YtochckefnjobhaaDoor
open Go Go.RowKit Go.Shelf Go.Lib
attribute [local go_sem] Oper.semAt_some

def backTo (n k : Nat) : List Nat := ((List.range n).drop k).reverse
theorem backTo_all (n : Nat) : backTo n n = [] := by unfold backTo; rw [List.drop_eq_nil_of_le (by simp)]; rfl
theorem backTo_next {n k : Nat} (h : k < n) : backTo n (k + 1) ++ [k] = backTo n k := by
  unfold backTo
  rw [List.drop_eq_getElem_cons (i := k) (by simpa using h), List.reverse_cons, List.getElem_range]
theorem backTo_len (n k : Nat) : (backTo n k).length = n - k := by unfold backTo; simp

set_option maxRecDepth 100000 in
set_option maxHeartbeats 1000000 in
theorem back_in (F : Fence) (n : Nat) (h38 : F.fn 53) (hro : F.round = none) (a : Option Addr) (m c : Nat) (w : World) :
    CallsIn F n Tryd.prog 53 #[.slice a m c] w fun e w' => e = .returned (.func (.func 67) #[] #[.pointer (some ⟨w.heap.size, 0, none⟩)]) ∧ w' = w.alloc (.cells #[.slice a m c] 24) := by
  refine callsIn_of_wp Tryd.func53 rfl h38 ?_ hro
  simp only [Tryd.ntmps53, List.size_toArray, List.length_cons, List.length_nil, Nat.reduceAdd, Nat.reduceSub, Array.replicate_succ, Array.replicate_zero, List.push_toArray, List.append_toArray, List.nil_append, List.cons_append]
  gi_wp2
  go_ret
  exact ⟨rfl, rfl⟩

/-- What the body must keep. -/
def KpB (b1 g : Nat) (W W' : World) : Prop := W'.heap[b1]? = W.heap[b1]? ∧ W'.heap[g]? = W.heap[g]?

set_option maxRecDepth 100000 in
set_option maxHeartbeats 2000000 in
theorem back_seq (F : Fence) (n : Nat) (h44 : F.fn 67) (hro : F.round = none) (hn : 1 ≤ n) (b1 g N cap : Nat) (K : Nat → Value) (w : World) (hb1 : w.heap[b1]? = some (.cells #[.slice (some ⟨g, 0, none⟩) N cap] 24 (0, 0))) (hg : g < w.heap.size) (hN : N ≤ 1000000) (hc : N ≤ cap)
    (hK : ∀ k, k < N → ∃ c0 c1 c2 c3 c4 c5, K k = .agg #[c0, c1, c2, c3, c4, c5] ∧ w.cell? ⟨g, k * 6, none⟩ = some c0 ∧ w.cell? ⟨g, k * 6 + 1, none⟩ = some c1 ∧ w.cell? ⟨g, k * 6 + 2, none⟩ = some c2 ∧ w.cell? ⟨g, k * 6 + 3, none⟩ = some c3 ∧ w.cell? ⟨g, k * 6 + 4, none⟩ = some c4 ∧ w.cell? ⟨g, k * 6 + 5, none⟩ = some c5) :
    SeqStopsK F n Tryd.prog 67 #[.pointer (some ⟨b1, 0, none⟩)] (fun k : Fin N => #[Value.int .i64 (k.val : Int), K k.val]) (KpB b1 g) (fun xs => xs.map (·.val) = backTo N 0) (fun _ => True) N w := fun l J Jx W hW hJ hJx hY h0 => by
  have hb1l := (Array.getElem?_eq_some_iff.1 hb1).1
  have HK := hid hK
  have HY := hid hY
  have HB := hid hb1
  have hW1 := hW.block b1 hb1l
  have hW2 := hW.block g hg
  clear hK hY hb1 hW hJ hJx
  refine callsIn_of_wp Tryd.func67 rfl h44 ?_ hro
  simp only [Tryd.ntmps67, List.size_toArray, List.length_cons, List.length_nil, Nat.reduceAdd, Nat.reduceSub, Array.replicate_succ, Array.replicate_zero, List.push_toArray, List.append_toArray, List.nil_append, List.cons_append]
  have c0 : W.cell? ⟨b1, 0, none⟩ = some (.slice (some ⟨g, 0, none⟩) N cap) := by rw [Lib.cell_of_heap (hW1.trans HB.out)]; rfl
  have HW1 := hid hW1
  have HW2 := hid hW2
  clear hW1 hW2
  gi_wp2
  clear c0
  gi_loopw [3] (fun i wr => ∃ k : Nat, k ≤ N ∧ i = .int .i64 ((k : Int) - 1) ∧ wr.heap[b1]? = w.heap[b1]? ∧ wr.heap[g]? = w.heap[g]? ∧ ∃ xs : List (Fin N), xs.map (·.val) = backTo N k ∧ J xs wr)
    (fun i _ => (intOf i + 1).toNat)
  case atStart =>
    exact ⟨N, Nat.le_refl _, rfl, HW1.out, HW2.out, [], (backTo_all N).symm, h0⟩
  case round =>
    obtain ⟨k, hk, rfl, h1, h2, xs, hxs, hj⟩ := hrel
    have c0 : wr.cell? ⟨b1, 0, none⟩ = some (.slice (some ⟨g, 0, none⟩) N cap) := by rw [Lib.cell_of_heap (h1.trans HB.out)]; rfl
    have H1 := hid h1
    have H2 := hid h2
    have HJ := hid hj
    have HXS := hid hxs
    clear h1 h2 hj hxs
    cases k with
    | zero =>
      have t1 : ¬ (0 : Int) ≤ ((0 : Nat) : Int) - 1 := by decide
      gi_wp2
      go_end0
      first
        | exact ⟨⟨_, rfl⟩, .inl ⟨_, HXS.out, HJ.out⟩⟩
    | succ k =>
      have ek : (((k + 1 : Nat) : Int) - 1) = (k : Int) := by omega
      have t1 : (0 : Int) ≤ (k : Int) := by omega
      have t2 : (k : Int) < (N : Int) := by omega
      obtain ⟨d0, d1, d2, d3, d4, d5, hKk, e0, e1, e2, e3, e4, e5⟩ := HK.out k (by omega)
      replace e0 := (World.cell?_of_block H2.out).trans e0
      replace e1 := (World.cell?_of_block H2.out).trans e1
      replace e2 := (World.cell?_of_block H2.out).trans e2
      replace e3 := (World.cell?_of_block H2.out).trans e3
      replace e4 := (World.cell?_of_block H2.out).trans e4
      replace e5 := (World.cell?_of_block H2.out).trans e5
      obtain ⟨fn, tmps, assign, body, hy, hR⟩ := HY.out xs ⟨k, by omega⟩ wr HJ.out (by have := congrArg List.length HXS.out; rw [List.length_map, backTo_len] at this; omega)
      have hX2 : (xs ++ [⟨k, by omega⟩] : List (Fin N)).map (·.val) = backTo N k := by rw [List.map_append, HXS.out]; exact backTo_next (by omega)
      have HX2 := hid hX2
      replace hy : (Instr.yield l #[Value.int .i64 (k : Int), K k]).run Tryd.prog wr = _ := hy
      rw [hKk] at hy
      have HR := hid hR
      clear hR hKk hX2
      simp only [ek]
      gi_wp2
      refine HR.out.mono ?_
      rintro e W3 (⟨rfl, hJ3, hk3⟩ | ⟨rfl, hJx3⟩)
      · have HJ3 := hid hJ3
        have HK3 := hid hk3
        clear hJ3 hk3
        gi_wp2
        exact ⟨⟨k, by omega, rfl, HK3.out.1.trans H1.out, HK3.out.2.trans H2.out, _, HX2.out, HJ3.out⟩, by show (((k : Int) - 1) + 1).toNat < ((k : Int) + 1).toNat; omega⟩
      · gi_wp2
        refine bodyPost_ret (results_none rfl _ _ _) rfl ?_
        exact ⟨⟨_, rfl⟩, .inr ⟨_, trivial, hJx3⟩⟩
end Go.Proofs.YtochckefnjobhaaDoor
