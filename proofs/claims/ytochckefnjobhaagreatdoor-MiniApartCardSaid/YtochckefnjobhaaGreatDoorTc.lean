/- The document's automaton, as the law lays it: a value of another type. -/
import Derived.Test.YtochckefnjobhaaGreatDoorAKs
import Derived.Test.YtochckefnjobhaaGreatDoorFo
import Derived.Test.YtochckefnjobhaaGreatDoorTa
namespace Go.Proofs.YtochckefnjobhaaGreatDoor
open Go Go.RowKit Go.Lib
open X5 (Aut)
set_option linter.unusedVariables false
set_option linter.unusedSimpArgs false
theorem fill_cons {place : Nat → Option (Nat × Nat)} {cells c1 : Array Value} {p : Nat × Value} (h : Instr.fill place cells [p] = some c1) (rest : List (Nat × Value)) : Instr.fill place cells (p :: rest) = Instr.fill place c1 rest := by
 obtain ⟨i, v⟩ := p
 unfold Instr.fill at h ⊢
 cases hp : place i with
 | none => rw [hp] at h; cases h
 | some os =>
  obtain ⟨off, size⟩ := os
  rw [hp] at h
  simp only at h ⊢
  split at h
  ·cases h
  ·rename_i c
   rw [if_neg c]
   unfold Instr.fill at h
   injection h with h
   rw [h]
   cases rest <;> rfl
theorem built34 (parts : List (Nat × Value)) : Tryz.prog.built 34 parts = Instr.fill (fun i => (#[(0, 256), (256, 1), (257, 1)] : Array (Nat × Nat))[i]?) (Array.replicate 256 (.int .i64 0) ++ #[nil1, nil1]) parts := by kernel_rfl
theorem fill34 (N : Array Value) (hs : N.size = 256) (no : Option Addr) (nn nc : Nat) (to : Option Addr) (tn tc : Nat) : Tryz.prog.built 34 [(0, .agg N), (1, .slice no nn nc), (2, .slice to tn tc)] = some (N ++ #[.slice no nn nc, .slice to tn tc]) := by
 have h0 := fill30i N hs
 rw [built30] at h0
 rw [built34, fill_cons h0]
 have hz : (N ++ #[nil1, nil1]).size = 258 := by rw [Array.size_append, hs]; rfl
 have hz2 : (N ++ #[.slice no nn nc, nil1]).size = 258 := by rw [Array.size_append, hs]; rfl
 have h1 : Instr.fill (fun i => (#[(0, 256), (256, 1), (257, 1)] : Array (Nat × Nat))[i]?) (N ++ #[nil1, nil1]) [(1, .slice no nn nc)] = some (N ++ #[.slice no nn nc, nil1]) := by
  have := set_mid hs nil1 nil1 (.slice no nn nc)
  generalize N ++ #[nil1, nil1] = Z at *
  simp [Instr.fill, Value.cells, hz]
  exact this
 have h2 : Instr.fill (fun i => (#[(0, 256), (256, 1), (257, 1)] : Array (Nat × Nat))[i]?) (N ++ #[.slice no nn nc, nil1]) [(2, .slice to tn tc)] = some (N ++ #[.slice no nn nc, .slice to tn tc]) := by
  have := set_end hs (.slice no nn nc) nil1 (.slice to tn tc)
  generalize N ++ #[.slice no nn nc, nil1] = Z at *
  simp [Instr.fill, Value.cells, hz2]
  exact this
 rw [fill_cons h1, h2]
theorem size34 : (Tryz.prog.info? 34).map (·.size) = some 258 := by kernel_rfl
theorem zero34 (w : World) : (zeroValue 34).run Tryz.prog w = .ok (.agg dvz) w := by
 rw [dvz_lit]; kernel_rfl
section
variable {ops : Array Oper} {rest : List Oper} {o : Oper} {a : Act} {w : World} {Q : Exit → Act → World → Prop} {K : Act → World → Prop}
theorem wpList_made34 (hg : o.guard = none) (hop : o.op = .alloc 34)
  (hK : wpList Tryz.prog ops Q rest (a.put o.dst (.pointer (some ⟨w.heap.size, 0, none⟩))) (w.alloc (.cells dvz 34))) : wpList Tryz.prog ops Q (o :: rest) a w :=
 wpList_made hg 34 hop _ (zero34 w) hK
theorem wpList_store34 (hg : o.guard = none) (p v : Operand) (hop : o.op = .store 34 p v) (g : Nat) (hp : a.eval p = .pointer (some ⟨g, 0, none⟩)) (cur cs : Array Value) (hb : w.heap[g]? = some (.cells cur 34 (0, 0)))
  (hv : a.eval v = .agg cs) (h0 : cur.size = 258) (h1 : cs.size = 258) (h2 : cs.all (·.oneCell') = true) (hK : wpList Tryz.prog ops Q rest (a.put o.dst undef) (w.setRow g cs)) : wpList Tryz.prog ops Q (o :: rest) a w := by
 refine wpList_plain hg fun K' hK' => ?_
 have hrun := run_storeVar_row (P := Tryz.prog) w g 34 34 cur cs hb (by rw [size34, h1]) (by rw [h0, h1]) h2
 unfold Oper.wp
 simp [execOp, hop, hp, hv, Instr.storeAt, Instr.sureAddr, hrun, Result.andThen]
 exact hK' _ _ hK
theorem wpList_build34 (hg : o.guard = none) (x y z : Operand) (hop : o.op = .build 34 #[(0, x), (1, y), (2, z)]) (cv : Array Value) (hl : cv.size = 256) (hx : a.eval x = .agg cv) (no : Option Addr) (nn nc : Nat) (to : Option Addr) (tn tc : Nat) (hy : a.eval y = .slice no nn nc) (hz : a.eval z = .slice to tn tc) (dc : Array Value) (hd : cv ++ #[.slice no nn nc, .slice to tn tc] = dc)
  (hK : wpList Tryz.prog ops Q rest (a.put o.dst (.agg dc)) w) : wpList Tryz.prog ops Q (o :: rest) a w := by
 subst hd
 refine wpList_plain hg fun K' hK' => ?_
 have hrun := run_build (P := Tryz.prog) w 34 #[(0, .agg cv), (1, .slice no nn nc), (2, .slice to tn tc)] _ (fill34 cv hl no nn nc to tn tc)
 generalize cv ++ #[.slice no nn nc, .slice to tn tc] = N at *
 unfold Oper.wp
 simp [execOp, hop, hx, hy, hz, hrun, Result.andThen]
 exact hK' _ _ hK
theorem exec_load34 (p : Operand) (hop : o.op = .load 34 p) (g : Nat) (hp : a.eval p = .pointer (some ⟨g, 0, none⟩)) (cs : Array Value) (hb : w.heap[g]? = some (.cells cs 34 (0, 0))) (h1 : cs.size = 258) :
  (execOp a.eval o).run Tryz.prog w = .ok (.value (.agg cs)) w := by
 unfold execOp
 simp only [hop, hp, Instr.loadAt, Instr.sureAddr, Sem.run_bind, Sem.run_pure, Result.andThen_ok, run_loadVar_row w g 34 34 cs (0, 0) _ hb Tryz.underlying34 rfl (by rw [size34, h1])]
theorem wp_load34 (p : Operand) (hop : o.op = .load 34 p) (g : Nat) (hp : a.eval p = .pointer (some ⟨g, 0, none⟩)) (cs : Array Value) (hb : w.heap[g]? = some (.cells cs 34 (0, 0))) (h1 : cs.size = 258)
  (hK : K (a.put o.dst (.agg cs)) w) : o.wp Tryz.prog a w K Q := by
 unfold Oper.wp
 rw [exec_load34 p hop g hp cs hb h1]
 exact hK
theorem quiet_load34 {C : World → Prop} {W : World} (p : Operand) (hop : o.op = .load 34 p) (g : Nat) (hp : a.eval p = .pointer (some ⟨g, 0, none⟩)) (cs : Array Value) (hC : Below W.heap.size W w) (hb : W.heap[g]? = some (.cells cs 34 (0, 0))) (h1 : cs.size = 258) : o.quietAt Tryz.prog a C w (.agg cs) := by
 unfold Oper.quietAt
 rw [exec_load34 p hop g hp cs ((hC.block _ (Array.getElem?_eq_some_iff.1 hb).1).trans hb) h1]
 exact ⟨rfl, rfl⟩
end
theorem results34 {fn : Func} {p : Tmp} (h : fn.results = #[.cell p 34]) (tmps : Array Value) (w : World) (g : Nat) (cs : Array Value)
  (hp : tmps.getD p undef = .pointer (some ⟨g, 0, none⟩)) (hg : w.heap[g]? = some (.cells cs 34 (0, 0))) (hl : cs.size = 258) :
  (results fn tmps).run Tryz.prog w = .ok (.agg cs) w := by
 have e := run_loadVar_row w g 34 34 cs (0, 0) _ hg Tryz.underlying34 rfl (by rw [size34, hl])
 have hp2 : tmps[p]?.getD undef = .pointer (some ⟨g, 0, none⟩) := by rw [← Array.getD_eq_getD_getElem?]; exact hp
 simp only [results, h]
 simp [Sem.run_bind, Result.andThen, hp2, asAddr, e]
theorem boxed (w : World) (dd : Array Value) : ∃ w', w.alloc (.cells dd 26) = w' ∧ Bxx w.heap.size dd w' ∧ Below w.heap.size w w' :=
 ⟨_, rfl, new_block _ _, (Below.refl _ _).alloc (Nat.le_refl _) _⟩
set_option maxRecDepth 100000 in
set_option maxHeartbeats 4000000 in
theorem ofD_any {D : Aut} {dd : Array Value} (w : World) (hL : Lies D dd w) : Calls Tryz.prog 15 #[.agg dd] w fun e w' => e = .returned (.agg dd) ∧ Below w.heap.size w w' := by
 have hsz := hL.sz
 obtain ⟨nv, tv, hd0, hda⟩ := hL
 obtain ⟨no, nc, rfl⟩ := rows_shape hda.rows
 obtain ⟨to, tc, rfl⟩ := tags_shape hda.tags
 obtain ⟨cv, hcv⟩ : ∃ cv, ivs D.cls = cv := ⟨_, rfl⟩
 have hcs : cv.size = 256 := by rw [← hcv, ivs_size]; exact hda.len
 have hdv : cv ++ #[.slice no D.next.length nc, .slice to D.tags.length tc] = dd := by rw [← hcv, hd0]
 have HD256 := hid (dcell_next hda.len (.slice no D.next.length nc) (.slice to D.tags.length tc))
 have HD257 := hid (dcell_tags hda.len (.slice no D.next.length nc) (.slice to D.tags.length tc))
 rw [← hd0] at HD256 HD257
 obtain ⟨w1, e1, hx1, hb1⟩ := boxed w dd
 obtain ⟨w2, e2⟩ : ∃ w2, w1.alloc (.cells dvz 34) = w2 := ⟨_, rfl⟩
 have hb2 : Below w1.heap.size w1 w2 := by rw [← e2]; exact (Below.refl _ _).alloc (Nat.le_refl _) _
 have HN2 := hid (show w2.heap[w1.heap.size]? = some (.cells dvz 34 (0, 0)) from by rw [← e2]; exact new_block _ _)
 have hx2 : w2.heap[w.heap.size]? = some (.cells dd 26 (0, 0)) := hx1.below hb2
 have HX2 := hid hx2
 have c256 : w2.cell? ⟨w.heap.size, 256, none⟩ = some (.slice no D.next.length nc) := by rw [Lib.cell_of_heap hx2, HD256.out]
 have c257 : w2.cell? ⟨w.heap.size, 257, none⟩ = some (.slice to D.tags.length tc) := by rw [Lib.cell_of_heap hx2, HD257.out]
 have HB := hid (hb1.trans (hb2.mono hb1.size))
 have le1 : w.heap.size ≤ w1.heap.size := hb1.size
 have HSZ := hid hsz
 have HCV := hid (And.intro hcs hdv)
 clear hda hx1 hb1 hb2 hx2 hsz hcv hcs hdv hd0
 go_enter Tryz.func15, Tryz.ntmps15
 go_wp2_with (first | (with_reducible refine wpList_made34 rfl rfl ?_) | (with_reducible refine wpList_load26i rfl (.tmp 3) rfl w.heap.size rfl cv _ _ dd HCV.out.2 HX2.out HCV.out.1 ?_) | (with_reducible refine wpList_build34 rfl (.tmp 4) (.tmp 6) (.tmp 8) rfl cv HCV.out.1 rfl _ _ _ _ _ _ rfl rfl dd HCV.out.2 ?_) | (with_reducible refine wpList_store34 rfl (.tmp 2) (.tmp 9) rfl w1.heap.size rfl dvz dd HN2.out rfl dvz_size HSZ.out.1 HSZ.out.2.1 ?_))
 refine bodyPost_ret (results34 rfl _ _ w1.heap.size dd rfl (setRow_heap _ w1.heap.size dvz dd 34 (0, 0) HN2.out) HSZ.out.1) rfl ?_
 exact ⟨rfl, row_below HB.out le1⟩
end Go.Proofs.YtochckefnjobhaaGreatDoor

/- Rows of answers in memory, each in a block of its own. -/
namespace Go.Proofs.YtochckefnjobhaaGreatDoor
open Go Go.RowKit Go.Lib
open X8 (setF)
set_option linter.unusedVariables false
set_option linter.unusedSimpArgs false
abbrev rowF (n : Nat) (f : Nat → Bool) : Array Value := ((List.range n).map fun k => Value.bool (f k)).toArray
theorem rowF_get (n : Nat) (f : Nat → Bool) (k : Nat) (h : k < n) : (rowF n f)[k]? = some (.bool (f k)) := by
 simp [rowF, h]
theorem rowF_false (n : Nat) : Array.replicate n (Value.bool false) = rowF n fun _ => false := by
 apply Array.ext'
 simp only [rowF, Array.toList_replicate, List.toList_toArray, List.map_const', List.length_range]
theorem rowF_set (n : Nat) (f : Nat → Bool) (k : Nat) (x : Bool) : (rowF n f).setIfInBounds k (.bool x) = rowF n fun j => if j = k then x else f j := by
 apply Array.ext'
 rw [Array.toList_setIfInBounds]
 apply List.ext_getElem?
 intro j
 simp only [rowF, List.toList_toArray, List.getElem?_set, List.getElem?_map, List.length_map, List.length_range]
 by_cases hj : j < n
 ·rw [List.getElem?_range hj]
  by_cases e : k = j
  ·subst e; simp [hj]
  ·rw [if_neg e, Option.map_some, Option.map_some, if_neg (fun h => e h.symm)]
 ·rw [List.getElem?_eq_none (l := List.range n) (by simp; omega)]
  by_cases e : k = j
  ·subst e; rw [if_pos rfl, if_neg hj]; rfl
  ·rw [if_neg e]; rfl
structure FarAt (w : World) (B n : Nat) (v : Value) (G : List Nat) (F : Nat → Nat → Bool) : Prop where
 own : w.ownsRow B 37 1 v G.length (G.map fun b => .slice (some ⟨b, 0, none⟩) n n)
 lt : ∀ b ∈ G, B ≤ b ∧ b < w.heap.size
 nd : G.Nodup
 off : ∀ b ∈ G, v.ownBlock ≠ some b
 row : ∀ i b, G[i]? = some b → w.heap[b]? = some (Obj.cells (rowF n (F i)) 4 (0, 0))
theorem FarAt.nil_ (w : World) (B n : Nat) (F : Nat → Nat → Bool) : FarAt w B n (.slice none 0 0) [] F := ⟨World.ownsRow_nil _ _ _ _, by simp, List.nodup_nil, by simp, by simp⟩
theorem FarAt.below {w w' : World} {B n : Nat} {v : Value} {G : List Nat} {F : Nat → Nat → Bool} (h : FarAt w B n v G F) (hb : Below w.heap.size w w') : FarAt w' B n v G F :=
 ⟨owns_kept h.own fun g hg => hb.block g (owns_lt h.own g hg).2, fun b hm => ⟨(h.lt b hm).1, Nat.lt_of_lt_of_le (h.lt b hm).2 hb.size⟩, h.nd, h.off, fun i b hi => (hb.block b (h.lt b (List.mem_of_getElem? hi)).2).trans (h.row i b hi)⟩
theorem FarAt.push {w w1 w' : World} {B n g : Nat} {v v' : Value} {G : List Nat} {F : Nat → Nat → Bool} (h : FarAt w B n v G F) (hb : Below w.heap.size w w1) (hB : B ≤ w.heap.size) (hg : w.heap.size ≤ g) (hg1 : w1.heap[g]? = some (.cells (rowF n (F G.length)) 4 (0, 0)))
  (hown : w'.ownsRow B 37 1 v' (G.length + 1) ((G.map fun b => Value.slice (some ⟨b, 0, none⟩) n n) ++ [.slice (some ⟨g, 0, none⟩) n n])) (hgr : w1.grownBy w' v.ownBlock) (hat : v'.ownBlock = v.ownBlock ∨ v'.ownBlock = some w1.heap.size) : FarAt w' B n v' (G ++ [g]) F := by
 have hgl := (Array.getElem?_eq_some_iff.1 hg1).1
 have h1 := h.below hb
 have hoff : ∀ b ∈ G ++ [g], v.ownBlock ≠ some b ∧ B ≤ b ∧ b < w1.heap.size := by
  intro b hm
  rcases List.mem_append.1 hm with hm | hm
  ·exact ⟨h.off b hm, h1.lt b hm⟩
  ·obtain rfl : b = g := List.mem_singleton.1 hm
   exact ⟨fun e => by have := (owns_lt h.own b e).2; omega, by omega, hgl⟩
 refine ⟨?_, fun b hm => ⟨(hoff b hm).2.1, Nat.lt_of_lt_of_le (hoff b hm).2.2 hgr.size⟩, ?_, fun b hm => ?_, fun i b hi => ?_⟩
 ·rw [List.length_append, List.map_append]; exact hown
 ·refine List.nodup_append.2 ⟨h.nd, List.nodup_cons.2 ⟨by simp, List.nodup_nil⟩, fun a ha b hb2 => ?_⟩
  obtain rfl : b = g := List.mem_singleton.1 hb2
  have := (h.lt a ha).2
  omega
 ·rcases hat with e | e
  ·rw [e]; exact (hoff b hm).1
  ·rw [e]
   intro e2
   injection e2 with e2
   have := (hoff b hm).2.2
   omega
 ·rw [hgr.block b (hoff b (List.mem_of_getElem? hi)).2.2 (fun e => (hoff b (List.mem_of_getElem? hi)).1 e.symm)]
  by_cases hlt : i < G.length
  ·rw [List.getElem?_append_left hlt] at hi
   exact h1.row i b hi
  ·rw [List.getElem?_append_right (by omega)] at hi
   have hi0 : i - G.length = 0 := by
    have := (List.getElem?_eq_some_iff.1 hi).1
    simpa using this
   rw [hi0] at hi
   obtain rfl : g = b := by simpa using hi
   rw [show i = G.length by omega]
   exact hg1
theorem FarAt.get {w : World} {B n : Nat} {v : Value} {G : List Nat} {F : Nat → Nat → Bool} (h : FarAt w B n v G F) {i : Nat} (hi : i < G.length) : ∃ o c b, v = .slice (some ⟨o, 0, none⟩) G.length c ∧ B ≤ o ∧ o < w.heap.size ∧ w.cell? ⟨o, i, none⟩ = some (.slice (some ⟨b, 0, none⟩) n n) ∧ G[i]? = some b ∧ B ≤ b ∧ b < w.heap.size ∧ o ≠ b ∧ (∀ k, k < n → w.cell? ⟨b, k, none⟩ = some (.bool (F i k))) ∧ ∀ k, w.frozen? ⟨b, k, none⟩ = false := by
 obtain ⟨o, c, rfl⟩ := own_shape h.own
 obtain ⟨b, hb⟩ : ∃ b, G[i]? = some b := ⟨_, List.getElem?_eq_getElem hi⟩
 have hx : (G.map fun b => Value.slice (some ⟨b, 0, none⟩) n n)[i]? = some (.slice (some ⟨b, 0, none⟩) n n) := by rw [List.getElem?_map, hb]; rfl
 obtain ⟨g, rfl, hc, hg⟩ := own_at h.own hi hx
 have hr := h.row i b hb
 refine ⟨g, c, b, rfl, (owns_lt h.own g rfl).1, hg, hc, hb, (h.lt b (List.mem_of_getElem? hb)).1, (h.lt b (List.mem_of_getElem? hb)).2, fun e => h.off b (List.mem_of_getElem? hb) (by rw [← e]; rfl), fun k hk => ?_, fun k => Lib.frozen_of_heap hr k⟩
 rw [Lib.cell_of_heap hr]
 exact rowF_get n (F i) k hk
theorem FarAt.set {w : World} {B n : Nat} {v : Value} {G : List Nat} {F : Nat → Nat → Bool} (h : FarAt w B n v G F) {i k b : Nat} (hb : G[i]? = some b) (x : Bool) : FarAt (w.setCell ⟨b, k, none⟩ (.bool x)) B n v G (setF F i k x) := by
 have hoff := h.off b (List.mem_of_getElem? hb)
 refine ⟨owns_kept h.own fun g hg => heap_setCell_other w ⟨b, k, none⟩ g _ (fun e => hoff (by rw [hg]; exact congrArg some e)), fun c hm => by rw [World.size_setCell]; exact h.lt c hm, h.nd, h.off, fun j c hj => ?_⟩
 by_cases e : j = i
 ·subst e
  rw [hb] at hj
  injection hj with hj
  subst hj
  rw [Go.heap_setCell_same w b k _ 4 _ (h.row j b hb), rowF_set]
  congr 3
  funext q
  unfold setF
  simp
 ·have hbc : c ≠ b := by
   intro e2
   subst e2
   obtain ⟨h1, h2⟩ := List.getElem?_eq_some_iff.1 hb
   obtain ⟨h3, h4⟩ := List.getElem?_eq_some_iff.1 hj
   have hp := List.pairwise_iff_getElem.1 h.nd
   rcases Nat.lt_or_gt_of_ne e with hl | hl
   ·exact hp j i h3 h1 hl (h4.trans h2.symm)
   ·exact hp i j h1 h3 hl (h2.trans h4.symm)
  rw [heap_setCell_other w ⟨b, k, none⟩ c _ hbc, h.row j c hj]
  congr 3
  funext q
  unfold setF
  rw [if_neg (by omega)]
theorem FarAt.setBelow {w0 w : World} {B n : Nat} {v : Value} {G : List Nat} {F : Nat → Nat → Bool} (h : FarAt w B n v G F) {i k b : Nat} (hb : G[i]? = some b) (x : Bool) (hw : Below B w0 w) : Below B w0 (w.setCell ⟨b, k, none⟩ (.bool x)) := hw.setCell (h.lt b (List.mem_of_getElem? hb)).1 _
end Go.Proofs.YtochckefnjobhaaGreatDoor

/- The document's telling apart: where a place goes, and the tags of all places. -/
namespace Go.Proofs.YtochckefnjobhaaGreatDoor
open Go Go.RowKit Go.Lib
open X5 (Aut)
set_option linter.unusedVariables false
set_option linter.unusedSimpArgs false
theorem add_cellF {b off j : Nat} : (⟨b, off, none⟩ : Addr).add j = ⟨b, off + j, none⟩ := by unfold Addr.add; split <;> simp_all
set_option maxRecDepth 100000 in
set_option maxHeartbeats 4000000 in
theorem toR_any {w : World} {D : Aut} {K : Nat} {dd : Array Value} (hL : Lies D dd w) (hD : X6.Ok D K) (p c : Nat) (hc : c < K) :
  Calls Tryz.prog 46 #[.agg dd, .int .i64 (p : Int), .int .i64 (c : Int)] w fun e w' => e = .returned (.int .i64 (X8.to8 D p c : Int)) ∧ Below w.heap.size w w' := by
 obtain ⟨wa, ea⟩ : ∃ wa, w.alloc (.cells dd 34) = wa := ⟨_, rfl⟩
 have hba : Below w.heap.size w wa := by rw [← ea]; exact (Below.refl _ _).alloc (Nat.le_refl _) _
 have hd : wa.heap[w.heap.size]? = some (.cells dd 34 (0, 0)) := by rw [← ea]; exact new_block _ _
 have HBA := hid hba
 obtain ⟨nv, tv, hdv, h⟩ := hL.below hba
 obtain ⟨no, nc, rfl, hrows⟩ := h.rows
 have cn : wa.cell? ⟨w.heap.size, 256, none⟩ = some (.slice no D.next.length nc) := by rw [Lib.cell_of_heap hd, hdv, dcell_next h.len]
 have hfew := h.few.1
 have HSh := hid h.short
 unfold maxLen at hfew
 have HROW := hid hrows
 have HOK := hid hD
 clear h hd hrows hdv hL hba hD
 by_cases h1 : D.next.length ≤ p
 ·have e : X8.to8 D p c = D.next.length := by unfold X8.to8; rw [if_neg (by omega)]
  rw [e]
  clear e
  have g1 : (D.next.length : Int) ≤ (p : Int) := by omega
  have g2 : decide ((D.next.length : Int) ≤ (p : Int)) = true := decide_eq_true g1
  have g3 : decide (D.next.length ≤ p) = true := decide_eq_true h1
  go_enter Tryz.func46, Tryz.ntmps46
  go_wp2_with fail
  go_ret
  exact ⟨rfl, HBA.out⟩
 have hi : p < D.next.length := by omega
 obtain ⟨bn, offn, rv, rfl, hbn, hcn, ⟨ro, rc, rfl, hrow⟩⟩ := HROW.out p hi
 have hlr := HSh.out _ (List.getElem_mem hi)
 unfold maxLen at hlr
 have hrl : (D.next[p]).length = K := by
  have := HOK.out.rows p hi
  unfold X5.rowOf at this
  rwa [List.getD_eq_getElem?_getD, List.getElem?_eq_getElem hi] at this
 have hX : X8.to8 D p c = X8.at8 D.next.length ((D.next[p]).getD c (-1)) := by
  unfold X8.to8 X5.rowOf
  rw [if_pos hi, List.getD_eq_getElem?_getD (l := D.next), List.getElem?_eq_getElem hi]
  rfl
 rw [hX]
 clear hX
 have HR := hid hrow
 clear hrow
 generalize D.next[p] = row at *
 have hj : c < row.length := by omega
 obtain ⟨br, offr, rfl, hbr, hcr⟩ := HR.out c hj
 have ez : row.getD c (-1) = row[c] := by rw [List.getD_eq_getElem?_getD, List.getElem?_eq_getElem hj]; rfl
 rw [ez]
 clear ez
 generalize row[c] = z at *
 have g1 : ¬ (D.next.length : Int) ≤ (p : Int) := by omega
 have g2 : decide ((D.next.length : Int) ≤ (p : Int)) = false := decide_eq_false g1
 have g3 : decide (D.next.length ≤ p) = false := decide_eq_false h1
 have h2 : (0 : Int) ≤ (p : Int) := by omega
 have h3 : (p : Int) < (D.next.length : Int) := by omega
 have h4 : (0 : Int) ≤ (c : Int) := by omega
 have h5 : (c : Int) < (row.length : Int) := by omega
 by_cases k2 : z < 0
 ·have m0 : decide (z < 0) = true := by simpa using k2
  have e : X8.at8 D.next.length z = D.next.length := by unfold X8.at8; rw [if_pos k2]
  rw [e]
  clear e
  go_enter Tryz.func46, Tryz.ntmps46
  go_wp2_with fail
  go_ret
  exact ⟨rfl, HBA.out⟩
 ·have m0 : decide (z < 0) = false := by simpa using k2
  have e : (X8.at8 D.next.length z : Int) = z := by unfold X8.at8; rw [if_neg k2]; omega
  rw [e]
  clear e
  go_enter Tryz.func46, Tryz.ntmps46
  go_wp2_with fail
  go_ret
  exact ⟨rfl, HBA.out⟩
set_option maxRecDepth 100000 in
set_option maxHeartbeats 4000000 in
theorem tagged_any {w : World} {D : Aut} {dd : Array Value} (hL : Lies D dd w) (hp : 0 < D.tags.length) (hn : D.tags.length ≤ 1000000) :
  Calls Tryz.prog 45 #[.agg dd] w fun e w' => ∃ v, e = .returned v ∧ w'.ownsRow w.heap.size 54 1 v (D.tags.length + 1) ((D.tags ++ [0]).map fun t : Nat => Value.int .u64 (t : Int)) ∧ Below w.heap.size w w' := by
 obtain ⟨wa, ea⟩ : ∃ wa, w.alloc (.cells dd 34) = wa := ⟨_, rfl⟩
 have hba : Below w.heap.size w wa := by rw [← ea]; exact (Below.refl _ _).alloc (Nat.le_refl _) _
 have hd : wa.heap[w.heap.size]? = some (.cells dd 34 (0, 0)) := by rw [← ea]; exact new_block _ _
 have hsz : wa.heap.size = w.heap.size + 1 := by rw [← ea]; simp
 have HBA := hid hba
 obtain ⟨nv, tv, hdv, h⟩ := hL.below hba
 obtain ⟨to, tc, rfl, htags⟩ := h.tags
 have cn : wa.cell? ⟨w.heap.size, 257, none⟩ = some (.slice to D.tags.length tc) := by rw [Lib.cell_of_heap hd, hdv, dcell_tags h.len]
 obtain ⟨b, off, rfl, _⟩ := htags 0 hp
 have HN := hid (show ∀ j u, (D.tags.map fun t : Nat => Value.int .u64 (t : Int))[j]? = some u → wa.cell? ((⟨b, off, none⟩ : Addr).add j) = some u from fun j u hu => by
  rw [List.getElem?_map] at hu
  obtain ⟨t, ht, rfl⟩ := Option.map_eq_some_iff.1 hu
  obtain ⟨hj, rfl⟩ := List.getElem?_eq_some_iff.1 ht
  obtain ⟨b', off', e, _, h3, _⟩ := htags j hj
  injection e with e
  injection e with e1 e2
  subst e1 e2
  rw [add_cellF]
  exact h3)
 have HOne := hid (show ∀ u ∈ D.tags.map fun t : Nat => Value.int .u64 (t : Int), u.oneCell' = true from fun u hu => by
  obtain ⟨t, _, rfl⟩ := List.mem_map.1 hu
  rfl)
 have HLn := hid (show (D.tags.map fun t : Nat => Value.int .u64 (t : Int)).length = D.tags.length * 1 from by simp)
 have HNil := hid (World.ownsRow_nil wa w.heap.size 54 1)
 have HW1 := hid (show w.heap.size ≤ wa.heap.size from hba.size)
 obtain ⟨T, hT⟩ : ∃ T, (D.tags.map fun t : Nat => Value.int .u64 (t : Int)) = T := ⟨_, rfl⟩
 have HT2 := hid (show ((D.tags ++ [0]).map fun t : Nat => Value.int .u64 (t : Int)) = T ++ [.int .u64 0] from by rw [List.map_append, hT]; rfl)
 rw [HT2.out]
 rw [hT] at HN HOne HLn
 obtain ⟨n, hnn⟩ : ∃ n, D.tags.length = n := ⟨_, rfl⟩
 rw [hnn] at hp hn cn HLn ⊢
 obtain ⟨i, hi, hz0, hz1, hz2⟩ := info_parts info43
 clear h hd hdv hL htags hT HT2 hnn
 go_enter Tryz.func45, Tryz.ntmps45
 go_wp2_with (at_builtin; go_loud (refine wpList_append_own_at wa rfl (.tmp 4) (.tmp 6) 24 rfl w.heap.size 54 i (.int .u64 0) 1 8 Tryz.underlying24 hi hz0 hz1 hz2 rfl (by decide) (.slice none 0 0) 0 [] rfl HNil.out ⟨b, off, none⟩ n tc T rfl HLn.out HN.out HOne.out (by unfold maxLen; omega) (by omega) HW1.out ?_))
 intro v2 w2 hown hg _ hat
 obtain ⟨o2, c2, rfl⟩ := own_shape hown
 have HB2 := hid (HBA.out.grown hg HW1.out (fun k e => by cases e))
 have HO2 := hid hown
 have hsz2 : w.heap.size ≤ w2.heap.size := HB2.out.size
 clear hown hg hat ea cn
 obtain ⟨w3, e3⟩ : ∃ w3, w2.alloc (.cells #[.int .u64 0] 54) = w3 := ⟨_, rfl⟩
 have hb3 : Below w2.heap.size w2 w3 := by rw [← e3]; exact (Below.refl _ _).alloc (Nat.le_refl _) _
 have HN3 := hid (show w3.heap[w2.heap.size]? = some (.cells #[.int .u64 0] 54 (0, 0)) from by rw [← e3]; exact new_block _ _)
 have HB3 := hid (HB2.out.trans (hb3.mono HB2.out.size))
 have HO3 := hid (owns_kept HO2.out fun g hg => hb3.block g (owns_lt HO2.out g hg).2)
 have hsz3 : w.heap.size ≤ w3.heap.size := HB3.out.size
 clear hb3
 go_wp2_with (at_builtin; refine wpList_push1 rfl (.tmp 8) (.tmp 9) 24 54 rfl (.int .u64 0) 8 Tryz.underlying24 info43 rfl (by decide) w.heap.size (.slice o2 n c2) n T rfl HO3.out w2.heap.size rfl (.int .u64 0) HN3.out rfl hn hsz3 ?_)
 intro v4 w4 hown hg hat
 have HB4 := hid (HB3.out.grown hg hsz3 (fun k e => (owns_lt HO3.out k e).1))
 have HO4 := hid hown
 clear hown hg hat e3
 go_wp2_with fail
 go_ret
 exact ⟨v4, rfl, HO4.out, HB4.out⟩
end Go.Proofs.YtochckefnjobhaaGreatDoor
