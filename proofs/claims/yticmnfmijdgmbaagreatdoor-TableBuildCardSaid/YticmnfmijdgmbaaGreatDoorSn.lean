/- What a closing of items may come to: sorts that begin, how many items. -/
import Derived.Test.YticmnfmijdgmbaaGreatDoorKv
import Derived.Maps.OwnIn
namespace Go.Proofs.YticmnfmijdgmbaaGreatDoor
open Go Go.RowKit Go.Lib
open X14 (It thereX behX beginX rightX sortX IsClose Clos)
set_option linter.unusedVariables false
set_option linter.unusedSimpArgs false
theorem beh_sort {G : GD} {x : It} {s : Int} (hv : validB G = true) (hb : behX G x = some s) (hs : s < 0) : -1 - s < (G.sorts.length : Int) ∧ 0 ≤ -1 - s := by
 refine ⟨?_, by omega⟩
 have ht := X14.there_iff.1 (X14.beh_there hb)
 unfold X14.behX at hb
 rw [if_pos (X14.beh_there (by unfold X14.behX; exact hb))] at hb
 obtain ⟨hlt, he⟩ := List.getElem?_eq_some_iff.1 hb
 obtain ⟨_, _, _, hp, _, hst, _⟩ := valid_parts hv
 have hmem : s ∈ rightX G x.1 := by rw [← he]; exact List.getElem_mem hlt
 by_cases h1 : x.1 = -1
 ·have e : rightX G x.1 = [-1 - G.start] := by unfold X14.rightX; rw [if_pos h1]
  rw [e] at hmem
  have : s = -1 - G.start := by simpa using hmem
  omega
 ·have e : rightX G x.1 = (G.prods.getD x.1.toNat default).rs := by unfold X14.rightX; rw [if_neg h1]
  rw [e] at hmem
  have hlp : x.1.toNat < G.prods.length := by omega
  have hpm : G.prods.getD x.1.toNat default ∈ G.prods := by
   rw [List.getD_eq_getElem?_getD, List.getElem?_eq_getElem hlp]
   exact List.getElem_mem hlp
  have hq := List.all_eq_true.1 hp _ hpm
  unfold prodB at hq
  simp only [Bool.and_eq_true, decide_eq_true_eq] at hq
  have hsy := List.all_eq_true.1 hq.2 s hmem
  unfold symB at hsy
  have := of_decide_eq_true hsy
  omega
def cntB (G : GD) (begun : Nat → Bool) : Nat := ((List.range G.prods.length).filter fun p => decide (0 ≤ sortX G p) && begun (sortX G p).toNat).length
theorem cntB_le (G : GD) (begun : Nat → Bool) : cntB G begun ≤ G.prods.length := by
 unfold cntB
 exact Nat.le_trans (List.length_filter_le _ _) (by simp)
theorem filter_or {α : Type} (f g h : α → Bool) (hd : ∀ x, f x = true → g x = true → False) (he : ∀ x, h x = (f x || g x)) : ∀ l : List α, (l.filter h).length = (l.filter f).length + (l.filter g).length
 | [] => rfl
 | x :: l => by
  have ih := filter_or f g h hd he l
  have hx := he x
  have hdx := hd x
  cases hf : f x <;> cases hg : g x <;> rw [hf, hg] at hx <;> simp only [Bool.or_false, Bool.or_true, Bool.false_or, Bool.true_or] at hx <;> simp [List.filter_cons, hx, hf, hg, ih]
  ·omega
  ·omega
  ·exact (hdx hf hg).elim
theorem cntB_begin {G : GD} {begun : Nat → Bool} {t : Nat} (hb : begun t = false) : cntB G (fun k => if k = t then true else begun k) = cntB G begun + (beginX G t G.prods.length).length := by
 unfold cntB X14.beginX
 rw [List.length_map]
 refine filter_or (fun p => decide (0 ≤ sortX G p) && begun (sortX G p).toNat) (fun p => sortX G p == (t : Int)) _ (fun p h1 h2 => ?_) (fun p => ?_) _
 ·simp only [Bool.and_eq_true, decide_eq_true_eq] at h1
  have h3 : sortX G p = (t : Int) := by simpa using h2
  rw [h3, Int.toNat_natCast, hb] at h1
  exact absurd h1.2 (by decide)
 ·by_cases h3 : sortX G p = (t : Int)
  ·rw [h3]
   simp
  ·have h4 : (sortX G p == (t : Int)) = false := by simpa using h3
   rw [h4, Bool.or_false]
   by_cases h0 : 0 ≤ sortX G p
   ·show (_ && (if (sortX G p).toNat = t then true else begun _)) = _
    rw [if_neg (by omega)]
   ·simp [h0]
theorem cntB_none (G : GD) : cntB G (fun _ => false) = 0 := by
 unfold cntB
 simp
theorem clos_start (G : GD) (l : List It) : Clos G l (l.filter (thereX G)) (fun _ => false) 0 :=
 ⟨fun x hx => .base x (List.mem_filter.1 hx).1 (List.mem_filter.1 hx).2, fun x hx ht => List.mem_filter.2 ⟨hx, ht⟩, fun _ _ h => (by cases h), fun j _ _ hj => absurd hj (Nat.not_lt_zero j)⟩
structure InvS (G : GD) (l : List It) (w0 wr : World) (bG bo bb : Nat) (gb : Array Value) (O : List It) (g c : Nat) (begun : Nat → Bool) (i : Nat) (ds : List Nat) : Prop where
 out : Out w0 wr bo O g c
 box : wr.heap[bG]? = some (.cells gb 27 (0, 0))
 bools : wr.heap[bb]? = some (.cells ((Array.range G.sorts.length).map fun k => .bool (begun k)) 4 (0, 0))
 clos : Clos G l O begun i
 len : O.length ≤ l.length + cntB G begun
 le : i ≤ O.length
 gG : g ≠ bG
 gb : g ≠ bb
 nd : ds.Nodup
 dge : ∀ D ∈ ds, w0.heap.size ≤ D
 ds : ∀ D ∈ ds, wr.heap[D]? = some (.deferred (some []))
theorem InvS.below {G : GD} {l : List It} {w0 wr W : World} {bG bo bb : Nat} {gb : Array Value} {O : List It} {g c : Nat} {begun : Nat → Bool} {i : Nat} {ds : List Nat} (h : InvS G l w0 wr bG bo bb gb O g c begun i ds) (hb : Below wr.heap.size wr W) : InvS G l w0 W bG bo bb gb O g c begun i ds :=
 ⟨h.out.below hb, (hb.block _ (Array.getElem?_eq_some_iff.1 h.box).1).trans h.box, (hb.block _ (Array.getElem?_eq_some_iff.1 h.bools).1).trans h.bools, h.clos, h.len, h.le, h.gG, h.gb, h.nd, h.dge, fun D hD => (hb.block _ (Array.getElem?_eq_some_iff.1 (h.ds D hD)).1).trans (h.ds D hD)⟩
theorem InvS.dne {G : GD} {l : List It} {w0 wr : World} {bG bo bb : Nat} {gb : Array Value} {O : List It} {g c : Nat} {begun : Nat → Bool} {i : Nat} {ds : List Nat} (h : InvS G l w0 wr bG bo bb gb O g c begun i ds) {D : Nat} (hD : D ∈ ds) : D ≠ g ∧ D ≠ bo ∧ D ≠ bb := by
 have e := h.ds D hD
 refine ⟨fun hx => ?_, fun hx => ?_, fun hx => ?_⟩
 ·rcases h.out.own.2 with ⟨e1, _⟩ | ⟨g', cap, cur, e1, _, e2, _⟩
  ·cases e1
  ·obtain rfl : g = g' := by injection e1 with e1; injection e1 with e1; injection e1
   rw [← hx, e] at e2
   cases e2
 ·have e2 := h.out.box
  rw [← hx, e] at e2
  cases e2
 ·have e2 := h.bools
  rw [← hx, e] at e2
  cases e2
theorem InvS.mark {G : GD} {l : List It} {w0 wr : World} {bG bo bb : Nat} {gb : Array Value} {O : List It} {g c : Nat} {begun : Nat → Bool} {i : Nat} {ds : List Nat} (h : InvS G l w0 wr bG bo bb gb O g c begun i ds) (t : Nat) (hG : bG ≠ bb) (ho : bo ≠ bb) (hw : w0.heap.size ≤ bb) :
  Out w0 (wr.setCell ⟨bb, t, none⟩ (.bool true)) bo O g c ∧ (wr.setCell ⟨bb, t, none⟩ (.bool true)).heap[bG]? = some (.cells gb 27 (0, 0)) ∧
   (wr.setCell ⟨bb, t, none⟩ (.bool true)).heap[bb]? = some (.cells ((Array.range G.sorts.length).map fun k => .bool ((fun k => if k = t then true else begun k) k)) 4 (0, 0)) ∧ ∀ D ∈ ds, (wr.setCell ⟨bb, t, none⟩ (.bool true)).heap[D]? = some (.deferred (some [])) := by
 have hk : ∀ q, q ≠ bb → (wr.setCell ⟨bb, t, none⟩ (.bool true)).heap[q]? = wr.heap[q]? := fun q hq => Below.heap_setCell _ _ _ _ hq
 refine ⟨h.out.keep (hk _ ho) (hk _ h.gb) (h.out.bel.setCell hw _), (hk _ hG).trans h.box, ?_, fun D hD => (hk _ (h.dne hD).2.2).trans (h.ds D hD)⟩
 have e : ((Array.range G.sorts.length).map fun k => Value.bool (begun k)).setIfInBounds t (.bool true) = (Array.range G.sorts.length).map fun k => Value.bool ((fun k => if k = t then true else begun k) k) := by
  refine Array.ext (by simp) fun k h1 h2 => ?_
  have h3 : k < ((Array.range G.sorts.length).map fun k => Value.bool (begun k)).size := by simpa using h1
  rw [Array.getElem_setIfInBounds h3, Array.getElem_map, Array.getElem_map, Array.getElem_range]
  by_cases hkt : t = k
  ·simp [hkt]
  ·have : ¬ k = t := fun e => hkt e.symm
   simp [hkt, this]
 rw [heap_setCell_same _ bb t _ 4 _ h.bools, e]
end Go.Proofs.YticmnfmijdgmbaaGreatDoor

namespace Go.Proofs.YticmnfmijdgmbaaGreatDoor
open Go Go.RowKit Go.Lib
open X14 (It)
set_option linter.unusedVariables false
set_option linter.unusedSimpArgs false
def BgI (w wS : World) (bo g1 : Nat) (O : List It) (pre : List It) (W : World) : Prop := ∃ g c, Out w W bo (O ++ pre) g c ∧ KeptT wS.heap.size [bo, g1] wS W ∧ (g = g1 ∨ wS.heap.size ≤ g)
theorem out_cells {w W : World} {bo g c : Nat} {O : List It} (h : Out w W bo O g c) : ∃ cur, W.heap[g]? = some (.cells cur 60 (0, 0)) := by
 rcases h.own.2 with ⟨e1, _⟩ | ⟨g', cap, cur, e1, _, e2, _⟩
 ·cases e1
 ·obtain rfl : g = g' := by injection e1 with e1; injection e1 with e1; injection e1
  exact ⟨_, e2⟩
theorem bgI_own {w wS : World} {bo g1 : Nat} {O : List It} (hw : w.heap.size ≤ wS.heap.size) : OwnFrom wS.heap.size (BgI w wS bo g1 O) := by
 rintro pre W W' row ⟨g, c, h1, h2, h3⟩ hg hr
 obtain ⟨cur, hcur⟩ := out_cells h1
 have ho : row ≠ some bo := fun e => by
  obtain ⟨_, o, ho, hc⟩ := hr bo e
  rw [h1.box] at ho
  obtain rfl := Option.some.inj ho
  cases hc
 have hgg : row ≠ some g := fun e => by
  obtain ⟨_, o, ho, hc⟩ := hr g e
  rw [hcur] at ho
  obtain rfl := Option.some.inj ho
  cases hc
 refine ⟨g, c, h1.keep (hg.block bo h1.lt.2.2 (fun e => ho e.symm)) (hg.block g h1.lt.2.1 (fun e => hgg e.symm)) (h1.bel.grown hg h1.bel.size (fun k e => ?_)), h2.trans ⟨hg.os, hg.tape, hg.output, hg.size, fun q hq hqT => hg.block q (Nat.lt_of_lt_of_le hq h2.size) fun e => ?_⟩, h3⟩
 ·exact Nat.le_trans hw (hr k e).1
 ·have := (hr q e.symm).1
  omega
theorem bg_push {w wS W W6 w7 : World} {bo g1 g c : Nat} {O pre : List It} {x : It} {v' : Value} (h : Out w W6 bo (O ++ pre) g c) (hk : KeptT wS.heap.size [bo, g1] wS W) (hb6 : Below W.heap.size W W6) (h3 : g = g1 ∨ wS.heap.size ≤ g)
  (hown : w7.ownsRow w.heap.size 60 2 v' ((O ++ pre).length + 1) (icells (O ++ pre) ++ [.int .i64 x.1, .int .i64 x.2])) (hg : W6.grownBy w7 (some g)) (hat : v'.ownBlock = some g ∨ v'.ownBlock = some W6.heap.size) :
  ∃ g' c', v' = .slice (some ⟨g', 0, none⟩) ((O ++ pre).length + 1) c' ∧ w7.heap[bo]? = some (.cells #[.slice (some ⟨g, 0, none⟩) (O ++ pre).length c] 45 (0, 0)) ∧
   KeepsFrom wS.heap.size W (w7.setCell ⟨bo, 0, none⟩ v') ∧ KeptT wS.heap.size [bo, g1] W (w7.setCell ⟨bo, 0, none⟩ v') ∧ BgI w wS bo g1 O (pre ++ [x]) (w7.setCell ⟨bo, 0, none⟩ v') := by
 obtain ⟨cur, hcur⟩ := out_cells h
 obtain ⟨g', c', rfl, hbo, hO, hg', hkk⟩ := h.push (x := x) hown hg hat
 have hs := hk.size
 have hs6 := hb6.size
 have hK1 := hkk wS.heap.size [bo, g1] (by omega) (by simp) (h3.imp (fun e => by simp [e]) id)
 have hK2 : KeptT wS.heap.size [bo, g1] W (w7.setCell ⟨bo, 0, none⟩ (.slice (some ⟨g', 0, none⟩) ((O ++ pre).length + 1) c')) := ((KeptT.refl _ _ W).below hs hb6).trans hK1
 have hK3 := hkk W6.heap.size [bo, g] (Nat.le_refl _) (by simp) (.inl (by simp))
 refine ⟨g', c', rfl, hbo, ⟨hK2.size, fun k o hk1 ho hc => ?_⟩, hK2, g', c', by rw [← List.append_assoc]; exact hO, hk.trans hK2, ?_⟩
 ·have hlt := (Array.getElem?_eq_some_iff.1 ho).1
  have h6 := (hb6.block k hlt).trans ho
  refine (hK3.block k (by omega) (fun hm => ?_)).trans h6
  simp only [List.mem_cons, List.not_mem_nil, or_false] at hm
  rcases hm with e | e
  ·subst e; rw [h.box] at h6; obtain rfl := Option.some.inj h6; cases hc
  ·subst e; rw [hcur] at h6; obtain rfl := Option.some.inj h6; cases hc
 ·rcases hg' with e | e
  ·rw [e]; exact h3
  ·right; omega
theorem wpListIn_push37 {F : Fence} {nF : Nat} {ops : Array Oper} {rest : List Oper} {o : Oper} {a : Act} {w : World} {Q : Exit → Act → World → Prop} (hgd : o.guard = none) (s x : Operand) (ho : o.op = .call { callee := .builtin .append, args := #[s, x], argTypes := #[45, 45] })
  (base : Nat) (v : Value) (n : Nat) (xs : List Value) (hs : a.eval s = v) (hown : w.ownsRow base 60 2 v n xs) (g : Nat) (hx : a.eval x = .slice (some ⟨g, 0, none⟩) 1 1) (p q : Int) (hb : w.heap[g]? = some (.cells #[.int .i64 p, .int .i64 q] 60 (0, 0))) (hn : n ≤ 1000000) (hbase : base ≤ w.heap.size)
  (h : ∀ v' w', w'.ownsRow base 60 2 v' (n + 1) (xs ++ [.int .i64 p, .int .i64 q]) → w.grownBy w' v.ownBlock → (v'.ownBlock = v.ownBlock ∨ v'.ownBlock = some w.heap.size) → wpListIn F nF Tryz.prog ops Q rest (a.put o.dst v') w') : wpListIn F nF Tryz.prog ops Q (o :: rest) a w := by
 obtain ⟨i, hi, h0, h1, h2⟩ := info_parts info37
 refine wpListIn_append_own_at w hgd s x 45 ho base 60 i _ 2 16 Tryz.underlying45 hi h0 h1 h2 rfl (by decide) v n xs hs hown ⟨g, 0, none⟩ 1 1 [.int .i64 p, .int .i64 q] hx rfl (fun j u hj => ?_) (fun u hu => ?_) (by unfold maxLen; omega) ?_ hbase (fun v' w' a1 a2 _ a4 => h v' w' a1 a2 a4)
 ·rw [add_one_cell, Nat.zero_add, Lib.cell_of_heap hb, ← hj]
  simp
 ·simp at hu; rcases hu with rfl | rfl <;> rfl
 ·omega
end Go.Proofs.YticmnfmijdgmbaaGreatDoor
