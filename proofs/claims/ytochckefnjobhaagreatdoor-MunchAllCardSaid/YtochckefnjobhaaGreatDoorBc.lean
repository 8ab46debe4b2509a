/- The document's automaton, as the law lays it: a value of another type. -/
import Derived.Test.YtochckefnjobhaaGreatDoorWo
import Derived.OwnWalk
import Derived.Maps.AppendAt
namespace Go.Proofs.YtochckefnjobhaaGreatDoor
open Go Go.RowKit Go.Lib
open X5 (Aut)
set_option linter.unusedVariables false
set_option linter.unusedSimpArgs false
theorem fill_cons {place : Nat → Option (Nat × Nat)} {cells c1 : Array Value} {p : Nat × Value} (h : Instr.fill place cells [p] = some c1) (rest : List (Nat × Value)) : Instr.fill place cells (p :: rest) = Instr.fill place c1 rest := by
 obtain ⟨i, v⟩ := p
 unfold Instr.fill at h ⊢
 cases hp : place i with
 | none => rw [hp] at h; cases h
 | some os =>
  obtain ⟨off, size⟩ := os
  rw [hp] at h
  simp only at h ⊢
  split at h
  ·cases h
  ·rename_i c
   rw [if_neg c]
   unfold Instr.fill at h
   injection h with h
   rw [h]
   cases rest <;> rfl
theorem built34 (parts : List (Nat × Value)) : Tryz.prog.built 34 parts = Instr.fill (fun i => (#[(0, 256), (256, 1), (257, 1)] : Array (Nat × Nat))[i]?) (Array.replicate 256 (.int .i64 0) ++ #[nil1, nil1]) parts := by kernel_rfl
theorem fill34 (N : Array Value) (hs : N.size = 256) (no : Option Addr) (nn nc : Nat) (to : Option Addr) (tn tc : Nat) : Tryz.prog.built 34 [(0, .agg N), (1, .slice no nn nc), (2, .slice to tn tc)] = some (N ++ #[.slice no nn nc, .slice to tn tc]) := by
 have h0 := fill30i N hs
 rw [built30] at h0
 rw [built34, fill_cons h0]
 have hz : (N ++ #[nil1, nil1]).size = 258 := by rw [Array.size_append, hs]; rfl
 have hz2 : (N ++ #[.slice no nn nc, nil1]).size = 258 := by rw [Array.size_append, hs]; rfl
 have h1 : Instr.fill (fun i => (#[(0, 256), (256, 1), (257, 1)] : Array (Nat × Nat))[i]?) (N ++ #[nil1, nil1]) [(1, .slice no nn nc)] = some (N ++ #[.slice no nn nc, nil1]) := by
  have := set_mid hs nil1 nil1 (.slice no nn nc)
  generalize N ++ #[nil1, nil1] = Z at *
  simp [Instr.fill, Value.cells, hz]
  exact this
 have h2 : Instr.fill (fun i => (#[(0, 256), (256, 1), (257, 1)] : Array (Nat × Nat))[i]?) (N ++ #[.slice no nn nc, nil1]) [(2, .slice to tn tc)] = some (N ++ #[.slice no nn nc, .slice to tn tc]) := by
  have := set_end hs (.slice no nn nc) nil1 (.slice to tn tc)
  generalize N ++ #[.slice no nn nc, nil1] = Z at *
  simp [Instr.fill, Value.cells, hz2]
  exact this
 rw [fill_cons h1, h2]
theorem size34 : (Tryz.prog.info? 34).map (·.size) = some 258 := by kernel_rfl
theorem zero34 (w : World) : (zeroValue 34).run Tryz.prog w = .ok (.agg dvz) w := by
 rw [dvz_lit]; kernel_rfl
section
variable {ops : Array Oper} {rest : List Oper} {o : Oper} {a : Act} {w : World} {Q : Exit → Act → World → Prop} {K : Act → World → Prop}
theorem wpList_made34 (hg : o.guard = none) (hop : o.op = .alloc 34)
  (hK : wpList Tryz.prog ops Q rest (a.put o.dst (.pointer (some ⟨w.heap.size, 0, none⟩))) (w.alloc (.cells dvz 34))) : wpList Tryz.prog ops Q (o :: rest) a w :=
 wpList_made hg 34 hop _ (zero34 w) hK
theorem wpList_store34 (hg : o.guard = none) (p v : Operand) (hop : o.op = .store 34 p v) (g : Nat) (hp : a.eval p = .pointer (some ⟨g, 0, none⟩)) (cur cs : Array Value) (hb : w.heap[g]? = some (.cells cur 34 (0, 0)))
  (hv : a.eval v = .agg cs) (h0 : cur.size = 258) (h1 : cs.size = 258) (h2 : cs.all (·.oneCell') = true) (hK : wpList Tryz.prog ops Q rest (a.put o.dst undef) (w.setRow g cs)) : wpList Tryz.prog ops Q (o :: rest) a w := by
 refine wpList_plain hg fun K' hK' => ?_
 have hrun := run_storeVar_row (P := Tryz.prog) w g 34 34 cur cs hb (by rw [size34, h1]) (by rw [h0, h1]) h2
 unfold Oper.wp
 simp [execOp, hop, hp, hv, Instr.storeAt, Instr.sureAddr, hrun, Result.andThen]
 exact hK' _ _ hK
theorem wpList_build34 (hg : o.guard = none) (x y z : Operand) (hop : o.op = .build 34 #[(0, x), (1, y), (2, z)]) (cv : Array Value) (hl : cv.size = 256) (hx : a.eval x = .agg cv) (no : Option Addr) (nn nc : Nat) (to : Option Addr) (tn tc : Nat) (hy : a.eval y = .slice no nn nc) (hz : a.eval z = .slice to tn tc) (dc : Array Value) (hd : cv ++ #[.slice no nn nc, .slice to tn tc] = dc)
  (hK : wpList Tryz.prog ops Q rest (a.put o.dst (.agg dc)) w) : wpList Tryz.prog ops Q (o :: rest) a w := by
 subst hd
 refine wpList_plain hg fun K' hK' => ?_
 have hrun := run_build (P := Tryz.prog) w 34 #[(0, .agg cv), (1, .slice no nn nc), (2, .slice to tn tc)] _ (fill34 cv hl no nn nc to tn tc)
 generalize cv ++ #[.slice no nn nc, .slice to tn tc] = N at *
 unfold Oper.wp
 simp [execOp, hop, hx, hy, hz, hrun, Result.andThen]
 exact hK' _ _ hK
theorem exec_load34 (p : Operand) (hop : o.op = .load 34 p) (g : Nat) (hp : a.eval p = .pointer (some ⟨g, 0, none⟩)) (cs : Array Value) (hb : w.heap[g]? = some (.cells cs 34 (0, 0))) (h1 : cs.size = 258) :
  (execOp a.eval o).run Tryz.prog w = .ok (.value (.agg cs)) w := by
 unfold execOp
 simp only [hop, hp, Instr.loadAt, Instr.sureAddr, Sem.run_bind, Sem.run_pure, Result.andThen_ok, run_loadVar_row w g 34 34 cs (0, 0) _ hb Tryz.underlying34 rfl (by rw [size34, h1])]
theorem wp_load34 (p : Operand) (hop : o.op = .load 34 p) (g : Nat) (hp : a.eval p = .pointer (some ⟨g, 0, none⟩)) (cs : Array Value) (hb : w.heap[g]? = some (.cells cs 34 (0, 0))) (h1 : cs.size = 258)
  (hK : K (a.put o.dst (.agg cs)) w) : o.wp Tryz.prog a w K Q := by
 unfold Oper.wp
 rw [exec_load34 p hop g hp cs hb h1]
 exact hK
theorem quiet_load34 {C : World → Prop} {W : World} (p : Operand) (hop : o.op = .load 34 p) (g : Nat) (hp : a.eval p = .pointer (some ⟨g, 0, none⟩)) (cs : Array Value) (hC : Below W.heap.size W w) (hb : W.heap[g]? = some (.cells cs 34 (0, 0))) (h1 : cs.size = 258) : o.quietAt Tryz.prog a C w (.agg cs) := by
 unfold Oper.quietAt
 rw [exec_load34 p hop g hp cs ((hC.block _ (Array.getElem?_eq_some_iff.1 hb).1).trans hb) h1]
 exact ⟨rfl, rfl⟩
end
theorem results34 {fn : Func} {p : Tmp} (h : fn.results = #[.cell p 34]) (tmps : Array Value) (w : World) (g : Nat) (cs : Array Value)
  (hp : tmps.getD p undef = .pointer (some ⟨g, 0, none⟩)) (hg : w.heap[g]? = some (.cells cs 34 (0, 0))) (hl : cs.size = 258) :
  (results fn tmps).run Tryz.prog w = .ok (.agg cs) w := by
 have e := run_loadVar_row w g 34 34 cs (0, 0) _ hg Tryz.underlying34 rfl (by rw [size34, hl])
 have hp2 : tmps[p]?.getD undef = .pointer (some ⟨g, 0, none⟩) := by rw [← Array.getD_eq_getD_getElem?]; exact hp
 simp only [results, h]
 simp [Sem.run_bind, Result.andThen, hp2, asAddr, e]
set_option maxRecDepth 100000 in
set_option maxHeartbeats 4000000 in
theorem ofD_any {D : Aut} {dd : Array Value} (w : World) (hL : Lies D dd w) : Calls Tryz.prog 15 #[.agg dd] w fun e w' => e = .returned (.agg dd) ∧ Below w.heap.size w w' := by
 have hsz := hL.sz
 obtain ⟨nv, tv, hd0, hda⟩ := hL
 obtain ⟨no, nc, rfl⟩ := rows_shape hda.rows
 obtain ⟨to, tc, rfl⟩ := tags_shape hda.tags
 obtain ⟨cv, hcv⟩ : ∃ cv, ivs D.cls = cv := ⟨_, rfl⟩
 have hcs : cv.size = 256 := by rw [← hcv, ivs_size]; exact hda.len
 have hdv : cv ++ #[.slice no D.next.length nc, .slice to D.tags.length tc] = dd := by rw [← hcv, hd0]
 have HD256 := hid (dcell_next hda.len (.slice no D.next.length nc) (.slice to D.tags.length tc))
 have HD257 := hid (dcell_tags hda.len (.slice no D.next.length nc) (.slice to D.tags.length tc))
 rw [← hd0] at HD256 HD257
 obtain ⟨w1, e1, hx1, hb1⟩ := boxed w dd
 obtain ⟨w2, e2⟩ : ∃ w2, w1.alloc (.cells dvz 34) = w2 := ⟨_, rfl⟩
 have hb2 : Below w1.heap.size w1 w2 := by rw [← e2]; exact (Below.refl _ _).alloc (Nat.le_refl _) _
 have HN2 := hid (show w2.heap[w1.heap.size]? = some (.cells dvz 34 (0, 0)) from by rw [← e2]; exact new_block _ _)
 have hx2 : w2.heap[w.heap.size]? = some (.cells dd 26 (0, 0)) := hx1.below hb2
 have HX2 := hid hx2
 have c256 : w2.cell? ⟨w.heap.size, 256, none⟩ = some (.slice no D.next.length nc) := by rw [Lib.cell_of_heap hx2, HD256.out]
 have c257 : w2.cell? ⟨w.heap.size, 257, none⟩ = some (.slice to D.tags.length tc) := by rw [Lib.cell_of_heap hx2, HD257.out]
 have HB := hid (hb1.trans (hb2.mono hb1.size))
 have le1 : w.heap.size ≤ w1.heap.size := hb1.size
 have HSZ := hid hsz
 have HCV := hid (And.intro hcs hdv)
 clear hda hx1 hb1 hb2 hx2 hsz hcv hcs hdv hd0
 go_enter Tryz.func15, Tryz.ntmps15
 go_wp2_with (first | (with_reducible refine wpList_made34 rfl rfl ?_) | (with_reducible refine wpList_load26i rfl (.tmp 3) rfl w.heap.size rfl cv _ _ dd HCV.out.2 HX2.out HCV.out.1 ?_) | (with_reducible refine wpList_build34 rfl (.tmp 4) (.tmp 6) (.tmp 8) rfl cv HCV.out.1 rfl _ _ _ _ _ _ rfl rfl dd HCV.out.2 ?_) | (with_reducible refine wpList_store34 rfl (.tmp 2) (.tmp 9) rfl w1.heap.size rfl dvz dd HN2.out rfl dvz_size HSZ.out.1 HSZ.out.2.1 ?_))
 refine bodyPost_ret (results34 rfl _ _ w1.heap.size dd rfl (setRow_heap _ w1.heap.size dvz dd 34 (0, 0) HN2.out) HSZ.out.1) rfl ?_
 exact ⟨rfl, row_below HB.out le1⟩
end Go.Proofs.YtochckefnjobhaaGreatDoor

/- The document's Go. -/
namespace Go.Proofs.YtochckefnjobhaaGreatDoor
open Go Go.RowKit Go.Lib
open X5 (Aut)
set_option linter.unusedVariables false
set_option linter.unusedSimpArgs false
set_option maxRecDepth 100000 in
set_option maxHeartbeats 4000000 in
theorem goR_any {w : World} {D : Aut} {dd : Array Value} (hL : Lies D dd w) (at_ : Int) (b : Nat) (hb : b < 256) :
  Calls Tryz.prog 57 #[.agg dd, .int .i64 at_, .int .u8 (b : Int)] w fun e w' => e = .returned (.int .i64 (X5.behX D at_ b)) ∧ Below w.heap.size w w' := by
 obtain ⟨wa, ea⟩ : ∃ wa, w.alloc (.cells dd 34) = wa := ⟨_, rfl⟩
 have hba : Below w.heap.size w wa := by rw [← ea]; exact (Below.refl _ _).alloc (Nat.le_refl _) _
 have hd : wa.heap[w.heap.size]? = some (.cells dd 34 (0, 0)) := by rw [← ea]; exact new_block _ _
 have HBA := hid hba
 have HSZ := hid hL.sz
 obtain ⟨nv, tv, hdv, h⟩ := hL.below hba
 obtain ⟨no, nc, rfl, hrows⟩ := h.rows
 have cn : wa.cell? ⟨w.heap.size, 256, none⟩ = some (.slice no D.next.length nc) := by rw [Lib.cell_of_heap hd, hdv, dcell_next h.len]
 have cc : wa.cell? ⟨w.heap.size, b, none⟩ = some (.int .i64 (D.cls.getD b 0)) := by rw [Lib.cell_of_heap hd, hdv, dcell_cls h.len _ _ hb]
 have hfew := h.few.1
 have HSh := hid h.short
 unfold maxLen at hfew
 have HROW := hid hrows
 clear h hd hrows hdv hL hba
 by_cases h0 : at_ < 0
 ·have e : X5.behX D at_ b = -1 := by unfold X5.behX; rw [if_pos (.inl h0)]
  rw [e]
  clear e
  go_enter Tryz.func57, Tryz.ntmps57
  go_wp2_with fail
  go_ret
  exact ⟨rfl, HBA.out⟩
 by_cases h1 : (D.next.length : Int) ≤ at_
 ·have e : X5.behX D at_ b = -1 := by unfold X5.behX; rw [if_pos (.inr h1)]
  rw [e]
  clear e
  go_enter Tryz.func57, Tryz.ntmps57
  go_wp2_with fail
  go_ret
  exact ⟨rfl, HBA.out⟩
 obtain ⟨i, rfl⟩ : ∃ i : Nat, at_ = (i : Int) := ⟨at_.toNat, by omega⟩
 have hi : i < D.next.length := by omega
 obtain ⟨bn, offn, rv, rfl, hbn, hcn, ⟨ro, rc, rfl, hrow⟩⟩ := HROW.out i hi
 have hlr := HSh.out _ (List.getElem_mem hi)
 unfold maxLen at hlr
 have hX : X5.behX D (i : Int) b = if D.cls.getD b 0 < 0 ∨ ((D.next[i]).length : Int) ≤ D.cls.getD b 0 then -1 else
   if (D.next[i]).getD (D.cls.getD b 0).toNat 0 < 0 ∨ (D.next.length : Int) ≤ (D.next[i]).getD (D.cls.getD b 0).toNat 0 then -1 else (D.next[i]).getD (D.cls.getD b 0).toNat 0 := by
  have e : X5.rowOf D i = D.next[i] := by unfold X5.rowOf; rw [List.getD_eq_getElem?_getD, List.getElem?_eq_getElem hi]; rfl
  unfold X5.behX
  rw [if_neg (by omega), Int.toNat_natCast, e]
 rw [hX]
 clear hX
 have HR := hid hrow
 clear hrow
 generalize D.next[i] = row at *
 generalize D.cls.getD b 0 = c at *
 have h2 : (0 : Int) ≤ (i : Int) := by omega
 have h3 : (i : Int) < (D.next.length : Int) := by omega
 by_cases k0 : c < 0
 ·rw [if_pos (.inl k0)]
  have g0 : decide (c < 0) = true := by simpa using k0
  go_enter Tryz.func57, Tryz.ntmps57
  go_wp2_with fail
  go_quiet (fail)
  go_wp2_with fail
  go_ret
  exact ⟨rfl, below_drewN HBA.out _⟩
 have n0 : decide (c < 0) = false := by simpa using k0
 by_cases k1 : (row.length : Int) ≤ c
 ·rw [if_pos (.inr k1)]
  have n1 : decide ((row.length : Int) ≤ c) = true := by simpa using k1
  go_enter Tryz.func57, Tryz.ntmps57
  go_wp2_with fail
  go_quiet (fail)
  go_wp2_with fail
  go_ret
  exact ⟨rfl, below_drewN HBA.out _⟩
 have n1 : decide ((row.length : Int) ≤ c) = false := by simpa using k1
 rw [if_neg (by omega)]
 obtain ⟨j, rfl⟩ : ∃ j : Nat, c = (j : Int) := ⟨c.toNat, by omega⟩
 have hj : j < row.length := by omega
 obtain ⟨br, offr, rfl, hbr, hcr⟩ := HR.out j hj
 have ez : row.getD (j : Int).toNat 0 = row[j] := by rw [Int.toNat_natCast, List.getD_eq_getElem?_getD, List.getElem?_eq_getElem hj]; rfl
 rw [ez]
 clear ez
 generalize row[j] = z at *
 have h4 : (0 : Int) ≤ (j : Int) := by omega
 have h5 : (j : Int) < (row.length : Int) := by omega
 have n2 : decide ((row.length : Int) ≤ (j : Int)) = false := by simp; omega
 have n3 : decide ((j : Int) < 0) = false := by first | (simp; done) | (simp; omega)
 have n4 : decide (row.length ≤ j) = false := by simp; omega
 by_cases k2 : z < 0
 ·rw [if_pos (.inl k2)]
  have m0 : decide (z < 0) = true := by simpa using k2
  go_enter Tryz.func57, Tryz.ntmps57
  go_wp2_with fail
  go_quiet (fail)
  go_wp2_with fail
  go_ret
  exact ⟨rfl, below_drewN HBA.out _⟩
 have m0 : decide (z < 0) = false := by simpa using k2
 by_cases k3 : (D.next.length : Int) ≤ z
 ·rw [if_pos (.inr k3)]
  have m1 : decide ((D.next.length : Int) ≤ z) = true := by simpa using k3
  go_enter Tryz.func57, Tryz.ntmps57
  go_wp2_with fail
  go_quiet (fail)
  go_wp2_with fail
  go_ret
  exact ⟨rfl, below_drewN HBA.out _⟩
 have m1 : decide ((D.next.length : Int) ≤ z) = false := by simpa using k3
 rw [if_neg (by omega)]
 go_enter Tryz.func57, Tryz.ntmps57
 go_wp2_with fail
 go_quiet (fail)
 go_wp2_with fail
 go_ret
 exact ⟨rfl, below_drewN HBA.out _⟩
end Go.Proofs.YtochckefnjobhaaGreatDoor

/- The document's Run. -/
namespace Go.Proofs.YtochckefnjobhaaGreatDoor
open Go Go.RowKit Go.Lib
open X5 (Aut)
set_option linter.unusedVariables false
set_option linter.unusedSimpArgs false
set_option maxRecDepth 100000 in
set_option maxHeartbeats 4000000 in
theorem runR_any {w : World} {D : Aut} {dd : Array Value} (hL : Lies D dd w) (s : ByteArray) (hs : s.size ≤ 1000000) :
  Calls Tryz.prog 25 #[.agg dd, .string s] w fun e w' => e = .returned (.int .u64 (X5.runX D (LL s) : Int)) ∧ Below w.heap.size w w' := by
 obtain ⟨wa, ea⟩ : ∃ wa, w.alloc (.cells dd 34) = wa := ⟨_, rfl⟩
 have hba : Below w.heap.size w wa := by rw [← ea]; exact (Below.refl _ _).alloc (Nat.le_refl _) _
 have hna : wa.heap[w.heap.size]? = some (.cells dd 34 (0, 0)) := by rw [← ea]; exact new_block _ _
 have HBA := hid hba
 have HNA := hid hna
 have HSZ := hid hL.sz
 have HL := hid (hL.below hba)
 have lna := (Array.getElem?_eq_some_iff.1 hna).1
 clear hL hba hna
 go_enter Tryz.func25, Tryz.ntmps25
 go_wp2_with fail
 clear ea
 go_loopw [5, 6] (fun t5 t6 wr => ∃ k : Nat, k ≤ s.size ∧ t6 = .int .i64 (k : Int) ∧ (∃ z : Int, t5 = .int .i64 z ∧ Hid (z = X5.goX D ((LL s).take k) 0)) ∧ Hid (Below wa.heap.size wa wr)) (fun _ t6 _ => s.size - (RowKit.intOf t6).toNat)
 case atStart => exact ⟨0, Nat.zero_le _, rfl, ⟨0, rfl, hid (by rw [List.take_zero]; rfl)⟩, hid (Below.refl _ _)⟩
 case round =>
  obtain ⟨k, hk, rfl, ⟨z, rfl, HZ⟩, HB⟩ := hrel
  have hszr := HB.out.size
  have HXr := hid ((HB.out.block _ lna).trans HNA.out)
  have HLr := hid (HL.out.below HB.out)
  by_cases hlt : k < s.size
  ·have h1 : (k : Int) < (s.size : Int) := by omega
   have h2 : (0 : Int) ≤ (k : Int) := by omega
   have KG : Hid (∀ w', Below wr.heap.size wr w' → Calls Tryz.prog 57 #[.agg dd, .int .i64 z, .int .u8 (((s[k]'hlt).toNat : Nat) : Int)] w' fun e w'' => e = .returned (.int .i64 (X5.behX D z (s[k]'hlt).toNat)) ∧ Below w'.heap.size w' w'') := hid fun w' hC => goR_any (HLr.out.below hC) z _ (s[k]'hlt).toNat_lt
   have HZ2 := hid (show X5.behX D z (s[k]'hlt).toNat = X5.goX D ((LL s).take (k + 1)) 0 from by rw [ll_next hlt, X5.goX_app, ← HZ.out]; rfl)
   generalize X5.behX D z (s[k]'hlt).toNat = z2 at *
   go_wp2_with fail
   refine wp_region_below (by kernel_rfl) (by kernel_rfl) ?_
   repeat (first
             | (refine BigFrame.wpQuiet_skip (by rfl) ?_; try simp only [Act.put, List.setIfInBounds_toArray, List.set_cons_zero, List.set_cons_succ])
             | (refine BigFrame.wpQuiet_want (by rfl) (fun K hK => ?_)
                apply Exists.intro
                refine ⟨fun w' hC => ?_, hK _ ?_⟩
                · first
                   | exact quiet_load34 (.tmp 2) rfl w.heap.size rfl dd hC HXr.out HSZ.out.1
                   | (unfold Oper.quietAt
                      go_simp
                      first
                        | with_reducible rfl
                        | done
                        | with_reducible exact below_call hC (Nat.le_refl _) (KG.out w' hC))
                clear hK K
                try simp only [Act.put, List.setIfInBounds_toArray, List.set_cons_zero, List.set_cons_succ]))
   refine wpQuiet_nil ?_
   intro w2 hb2
   have HB2 := hid (HB.out.trans (hb2.mono hszr))
   clear hb2
   go_wp2_with fail
   refine ⟨⟨k + 1, by omega, rfl, ⟨z2, rfl, HZ2⟩, HB2⟩, ?_⟩
   show s.size - ((k : Int) + 1).toNat < s.size - ((k : Int)).toNat
   omega
  ·have h1 : ¬ (k : Int) < (s.size : Int) := by omega
   obtain rfl : k = s.size := by omega
   have htk : (LL s).take s.size = LL s := List.take_of_length_le (by rw [Array.length_toList]; exact Nat.le_refl _)
   rw [htk] at HZ
   have HX := hid (show X5.runX D (LL s) = if z < 0 ∨ (D.next.length : Int) ≤ z ∨ (D.tags.length : Int) ≤ z then 0 else D.tags.getD z.toNat 0 from by
    unfold X5.runX
    rw [← HZ.out])
   obtain ⟨nv, tv, hdv, hda⟩ := HLr.out
   obtain ⟨no, nc, rfl⟩ := rows_shape hda.rows
   obtain ⟨to, tc, rfl⟩ := tags_shape hda.tags
   have cn : wr.cell? ⟨w.heap.size, 256, none⟩ = some (.slice no D.next.length nc) := by rw [Lib.cell_of_heap HXr.out, hdv, dcell_next hda.len]
   have ct : wr.cell? ⟨w.heap.size, 257, none⟩ = some (.slice to D.tags.length tc) := by rw [Lib.cell_of_heap HXr.out, hdv, dcell_tags hda.len]
   have HEnd := hid (HBA.out.trans (HB.out.mono HBA.out.size))
   have HTG := hid hda.tags
   clear htk hdv hda
   by_cases k0 : z < 0
   ·go_wp2_with fail
    go_ret
    exact ⟨by rw [HX.out, if_pos (.inl k0)]; rfl, HEnd.out⟩
   by_cases k2 : (D.tags.length : Int) ≤ z
   ·go_wp2_with fail
    go_ret
    exact ⟨by rw [HX.out, if_pos (.inr (.inr k2))]; rfl, HEnd.out⟩
   by_cases k1 : (D.next.length : Int) ≤ z
   ·go_wp2_with fail
    go_ret
    exact ⟨by rw [HX.out, if_pos (.inr (.inl k1))]; rfl, HEnd.out⟩
   have HX2 := hid (show X5.runX D (LL s) = D.tags.getD z.toNat 0 from by rw [HX.out, if_neg (by omega)])
   obtain ⟨i, rfl⟩ : ∃ i : Nat, z = (i : Int) := ⟨z.toNat, by omega⟩
   have hi : i < D.tags.length := by omega
   obtain ⟨tg, htg⟩ : ∃ tg, D.tags[i]? = some tg := ⟨_, List.getElem?_eq_getElem hi⟩
   obtain ⟨bt, offt, tc', htv, hbt, hct, _⟩ := tagsAt_get HTG.out htg
   injection htv with e1 e2 e3
   subst e1
   have ez : D.tags.getD (i : Int).toNat 0 = tg := by rw [Int.toNat_natCast, List.getD_eq_getElem?_getD, htg]; rfl
   rw [ez] at HX2
   have h5 : (0 : Int) ≤ (i : Int) := by omega
   have h6 : (i : Int) < (D.tags.length : Int) := by omega
   clear e2 e3 ez htg
   go_wp2_with fail
   go_ret
   exact ⟨by rw [HX2.out]; rfl, HEnd.out⟩
end Go.Proofs.YtochckefnjobhaaGreatDoor

/- The document's sets of numbers. -/
namespace Go.Proofs.YtochckefnjobhaaGreatDoor.B1
open Go Go.RowKit Go.Shelf Go.Lib
attribute [local go_sem] Oper.semAt_some
set_option linter.unusedVariables false
theorem upto_zero (s : Nat) : upto s 0 = [] := rfl
theorem ownsRow_base {W : World} {b b' : Nat} {e : TypeId} {size : Nat} {v : Value} {k : Nat} {xs : List Value} (h : W.ownsRow b e size v k xs) (hb : b' ≤ b) : W.ownsRow b' e size v k xs :=
 ⟨h.1, h.2.imp id fun ⟨g, cap, cur, e1, e2, e3⟩ => ⟨g, cap, cur, e1, by omega, e3⟩⟩
theorem ownsRow_off {W : World} {b B : Nat} {e : TypeId} {size : Nat} {v : Value} {k : Nat} {xs : List Value} (h : W.ownsRow b e size v k xs) (hb : B < b) : v.ownBlock ≠ some B := by
 rcases h.2 with ⟨rfl, _⟩ | ⟨g, cap, cur, rfl, h2, _⟩
 ·simp [Value.ownBlock]
 ·simp [Value.ownBlock]; omega
theorem and_lt {a : Nat} (ha : a < 18446744073709551616) (b : Nat) : a &&& b < 18446744073709551616 :=
 Nat.lt_of_le_of_lt Nat.and_le_left ha
theorem upto_ext {a b : Nat} (h : ∀ i, i < 64 → a.testBit i = b.testBit i) : upto a 64 = upto b 64 := by
 unfold upto
 exact List.filter_congr fun i hi => h i (by simpa using hi)
def Listed (base : Nat) (l : List Nat) (W : World) (v : Value) : Prop := W.ownsRow base 3 1 v l.length (nums l) ∧ (v = .slice none 0 0 ↔ l = [])
theorem testBit_ofN (l : List Int) (i : Nat) : (ofN l).testBit i = decide (i < 64 ∧ (i : Int) ∈ l) := by
 have : ∀ (l : List Int) (s : Nat), (l.foldl (fun s n => s ||| bitN n) s).testBit i = (s.testBit i || decide (i < 64 ∧ (i : Int) ∈ l)) := by
  intro l
  induction l with
  | nil => intro s; simp
  | cons x l ih =>
   intro s
   rw [List.foldl_cons, ih, Nat.testBit_or, testBit_bitN, Bool.or_assoc]
   congr 1
   rw [Bool.eq_iff_iff]
   simp only [Bool.or_eq_true, decide_eq_true_eq, List.mem_cons]
   constructor
   ·rintro (⟨h1, h2, h3⟩ | ⟨h1, h2⟩)
    ·exact ⟨by omega, .inl h3⟩
    ·exact ⟨h1, .inr h2⟩
   ·rintro ⟨h1, h2 | h2⟩
    ·exact .inl ⟨by omega, by omega, h2⟩
    ·exact .inr ⟨h1, h2⟩
 rw [ofN, this]; simp
theorem Of_nil (a : Option Addr) (cap : Nat) (w : World) :
  Calls Tryz.prog 41 #[.slice a 0 cap] w fun e w' => e = .returned (u64 0) ∧ w = w' := by
 go_enter Tryz.func41, Tryz.ntmps41
 go_wp2
 go_loop [3, 8] (fun s i => i = .int .i64 0 ∧ s = u64 0) (fun _ _ => 0)
 case atStart => exact ⟨rfl, rfl⟩
 case round =>
  obtain ⟨rfl, rfl⟩ := hrel
  go_wp2
  go_ret
  exact ⟨rfl, rfl⟩
theorem ofN_upto {s : Nat} (hs : s < 18446744073709551616) : ofN ((upto s 64).map fun k : Nat => (k : Int)) = s := by
 refine set_ext (ofN_lt _) hs fun i hi => ?_
 rw [testBit_ofN]
 rw [Bool.eq_iff_iff]
 simp only [decide_eq_true_eq, List.mem_map, mem_upto]
 constructor
 ·rintro ⟨_, j, ⟨_, h⟩, e⟩
  rwa [show j = i by omega] at h
 ·exact fun h => ⟨hi, i, ⟨hi, h⟩, rfl⟩
theorem Of_listed {base s : Nat} {v : Value} {W : World} (hs : s < 18446744073709551616) (h : Listed base (upto s 64) W v) :
  Calls Tryz.prog 41 #[v] W fun e w' => e = .returned (u64 s) ∧ W = w' := by
 obtain ⟨⟨hl, hr⟩, _⟩ := h
 rcases hr with ⟨rfl, h0⟩ | ⟨g, cap, cur, rfl, hb, hg, h1, h2, h3, h4⟩
 ·have : s = 0 := (upto_nil_iff hs).1 (List.eq_nil_of_length_eq_zero h0)
  subst this
  exact Of_nil none 0 W
 ·have hlen := upto_length s 64
  have := Of_some g 0 cap ((upto s 64).map fun k : Nat => (k : Int)) W (by simp; omega) (fun i hi => ?_)
  ·rw [ofN_upto hs] at this
   simpa using this
  ·have ho : W.ownsRow base 3 1 (.slice (some ⟨g, 0, none⟩) (upto s 64).length cap) (upto s 64).length (nums (upto s 64)) := ⟨hl, .inr ⟨g, cap, cur, rfl, hb, hg, h1, h2, h3, h4⟩⟩
   have hi' : i < (upto s 64).length := by simpa using hi
   have := ho.cellAt i (by simpa using hi)
   rw [Nat.zero_add, this]
   simp [nums, hi']
theorem has_iff (a : Nat) (n : Int) : hasN a n = true ↔ 0 ≤ n ∧ n < 64 ∧ a.testBit n.toNat = true := by
 unfold hasN; rw [decide_eq_true_eq]; exact and_bitN_ne a n
end Go.Proofs.YtochckefnjobhaaGreatDoor.B1
namespace Go.Proofs.YtochckefnjobhaaGreatDoor.B1
open Go Go.RowKit Go.Shelf Go.Lib
def Reads (W : World) (v : Value) (l : List Int) : Prop :=
 ∃ a cap, v = .slice a l.length cap ∧ (l ≠ [] → ∃ b off, a = some ⟨b, off, none⟩ ∧ ∀ i, i < l.length → W.cell? ⟨b, off + i, none⟩ = some (.int .i64 (l.getD i 0)))
def ints (l : List Nat) : List Int := l.map fun k : Nat => (k : Int)
theorem Listed.reads {base : Nat} {l : List Nat} {W : World} {v : Value} (h : Listed base l W v) : Reads W v (ints l) := by
 obtain ⟨ho, hn⟩ := h
 rcases ho.2 with ⟨rfl, h0⟩ | ⟨g, cap, cur, rfl, hb, hg, h1, h2, h3, h4⟩
 ·have : l = [] := List.eq_nil_of_length_eq_zero h0
  subst this
  exact ⟨none, 0, rfl, fun h => absurd rfl h⟩
 ·refine ⟨some ⟨g, 0, none⟩, cap, by simp [ints], fun _ => ⟨g, 0, rfl, fun i hi => ?_⟩⟩
  have hi' : i < l.length := by simpa [ints] using hi
  have := ho.cellAt i (by simpa using hi')
  rw [Nat.zero_add, this]
  simp [nums, ints, hi']
theorem Listed.below {base : Nat} {l : List Nat} {W W' : World} {v : Value} (h : Listed base l W v) (hb : Below W.heap.size W W') : Listed base l W' v := by
 refine ⟨⟨h.1.1, h.1.2.imp id fun ⟨g, cap, cur, e1, e2, e3, e4⟩ => ⟨g, cap, cur, e1, e2, ?_, e4⟩⟩, h.2⟩
 exact (hb.block g (Array.getElem?_eq_some_iff.1 e3).1).trans e3
theorem Reads.below {l : List Int} {W W' : World} {v : Value} (h : Reads W v l) (hb : Below W.heap.size W W') : Reads W' v l := by
 obtain ⟨a, cap, rfl, h⟩ := h
 refine ⟨a, cap, rfl, fun hn => ?_⟩
 obtain ⟨b, off, rfl, hc⟩ := h hn
 refine ⟨b, off, rfl, fun i hi => ?_⟩
 have hci := hc i hi
 have hlt : b < W.heap.size := by
  apply Classical.byContradiction
  intro hge
  have : W.heap[b]? = none := by simp; omega
  simp [World.cell?, this] at hci
 exact (hb.cell (p := ⟨b, off + i, none⟩) hlt).trans hci
end Go.Proofs.YtochckefnjobhaaGreatDoor.B1
namespace Go.Proofs.YtochckefnjobhaaGreatDoor.B1
open Go Go.RowKit Go.Shelf Go.Lib
theorem shr_half (a k : Nat) : a >>> k / 2 = a >>> (k + 1) := by
 rw [← shr_one a k, Nat.shiftRight_eq_div_pow (a >>> k) 1]
theorem hasN_shr (a n : Nat) (hn : n < 64) : hasN a (n : Int) = decide (a >>> n % 2 = 1) := by
 rw [← testBit_shr, Bool.eq_iff_iff, has_iff]
 constructor
 ·exact fun h => by simpa using h.2.2
 ·exact fun h => ⟨by omega, by omega, by simpa using h⟩
theorem shr_le (a k : Nat) : a >>> k ≤ a := by rw [Nat.shiftRight_eq_div_pow]; exact Nat.div_le_self _ _
theorem RHas_any (a : Nat) (n : Int) (ha : a < 18446744073709551616) (w : World) : Calls Tryz.prog 64 #[u64 a, .int .i64 n] w fun e w' => e = .returned (.bool (hasN a n)) ∧ w = w' := by
 by_cases h0 : n < 0
 ·have e : hasN a n = false := by
   cases h : hasN a n
   ·rfl
   ·have := (has_iff a n).1 h; omega
  rw [e]
  have E := hid e
  clear e
  go_enter Tryz.func64, Tryz.ntmps64
  go_wp2
  go_ret
  exact ⟨rfl, rfl⟩
 ·by_cases h1 : 63 < n
  ·have e : hasN a n = false := by
    cases h : hasN a n
    ·rfl
    ·have := (has_iff a n).1 h; omega
   rw [e]
   have E := hid e
   clear e
   go_enter Tryz.func64, Tryz.ntmps64
   go_wp2
   go_ret
   exact ⟨rfl, rfl⟩
  ·obtain ⟨m, rfl⟩ : ∃ m : Nat, n = m := ⟨n.toNat, by omega⟩
   have e := hasN_shr a m (by omega)
   generalize hasN a (m : Int) = B at *
   have E := hid e
   clear e
   go_enter Tryz.func64, Tryz.ntmps64
   go_wp2
   go_loop [0, 5] (fun s i => ∃ k : Nat, k ≤ m ∧ i = .int .i64 (k : Int) ∧ s = u64 (a >>> k)) (fun _ i => m - (intOf i).toNat)
   case atStart => exact ⟨0, Nat.zero_le _, rfl, rfl⟩
   case round =>
    obtain ⟨k, hk, rfl, rfl⟩ := hrel
    have hs := shr_le a k
    have HH := hid (shr_half a k)
    generalize hx : a >>> k = x at *
    have HX := hid hx
    clear hx
    have hx0 : (0 : Int) ≤ (x : Int) := by omega
    by_cases hlt : k < m
    ·go_wp2
     exact ⟨⟨k + 1, by omega, by go_num, by rw [← HH.out]; rfl⟩, by simp [intOf]; omega⟩
    ·obtain rfl : k = m := by omega
     go_wp2
     go_ret
     refine ⟨?_, rfl⟩
     rw [E.out, HX.out]
     show Ending.returned (.bool (((x : Int) % 2) == 1)) = _
     congr 2
     rw [Bool.eq_iff_iff]
     simp
     omega
theorem bitN_succ (k : Nat) (h : k + 1 < 64) : bitN ((k : Int) + 1) = bitN (k : Int) * 2 := by
 unfold bitN
 rw [if_pos (by omega), if_pos (by omega)]
 rw [show ((k : Int) + 1).toNat = k + 1 by omega, Int.toNat_natCast, Nat.pow_succ]
theorem RBit_any (m : Nat) (hm : m < 64) (w : World) : Calls Tryz.prog 66 #[.int .i64 (m : Int)] w fun e w' => e = .returned (u64 (bitN (m : Int))) ∧ w = w' := by
 go_enter Tryz.func66, Tryz.ntmps66
 go_wp2
 go_loop [3, 4] (fun s i => ∃ k : Nat, k ≤ m ∧ i = .int .i64 (k : Int) ∧ s = u64 (bitN (k : Int))) (fun _ i => m - (intOf i).toNat)
 case atStart => exact ⟨0, Nat.zero_le _, rfl, rfl⟩
 case round =>
  obtain ⟨k, hk, rfl, rfl⟩ := hrel
  by_cases hlt : k < m
  ·have HB := hid (bitN_succ k (by omega))
   have hb := bitN_lt ((k : Int) + 1)
   rw [HB.out] at hb
   generalize bitN (k : Int) = x at *
   have HX : IntKind.u64.wrap ((x : Int) * 2) = ((x * 2 : Nat) : Int) := by rw [IntKind.wrap_u64]; omega
   have HY := hid HX
   clear HX
   go_wp2
   exact ⟨⟨k + 1, by omega, by go_num, by rw [show ((k + 1 : Nat) : Int) = (k : Int) + 1 from rfl, HB.out]; first | rfl | rw [HY.out]⟩, by simp [intOf]; omega⟩
  ·obtain rfl : k = m := by omega
   go_wp2
   go_ret
   exact ⟨rfl, rfl⟩
end Go.Proofs.YtochckefnjobhaaGreatDoor.B1
namespace Go.Proofs.YtochckefnjobhaaGreatDoor.B1
open Go Go.RowKit Go.Shelf Go.Lib
theorem listed_nil (base : Nat) (W : World) : Listed base [] W (.slice none 0 0) := ⟨World.ownsRow_nil _ _ _ _, by simp⟩
theorem listed_snoc {base k : Nat} {l : List Nat} {W : World} {v : Value} (h : W.ownsRow base 3 1 v (l.length + 1) (nums l ++ [.int .i64 (k : Int)])) : Listed base (l ++ [k]) W v := by
 obtain ⟨g, cap, rfl⟩ := ownsRow_succ h
 exact ⟨by simpa [nums] using h, by simp⟩
theorem below_append {base : Nat} {w wr w1 : World} {v : Value} {l : List Nat} {o : Obj} (hB : Below base w wr) (hb : base ≤ wr.heap.size) (hL : Listed base l wr v) (hg : (wr.alloc o).grownBy w1 v.ownBlock) : Below base w w1 :=
 (hB.alloc hb o).grown hg (by simp; omega) fun k e => (hL.1.lt k e).1
set_option maxRecDepth 100000 in
set_option maxHeartbeats 1000000 in
theorem RList_any (a : Nat) (ha : a < 18446744073709551616) (w : World) :
  Calls Tryz.prog 61 #[u64 a] w fun e W' => ∃ v, e = .returned v ∧ Listed w.heap.size (upto a 64) W' v ∧ Below w.heap.size w W' := by
 obtain ⟨i0, hi, hz0, hz1, hz2⟩ := info_parts info3
 go_enter Tryz.func61, Tryz.ntmps61
 go_wp2
 go_loopw [3, 4] (fun v i wr => ∃ k : Nat, k ≤ 64 ∧ i = .int .i64 (k : Int) ∧ Listed w.heap.size (upto a k) wr v ∧ Below w.heap.size w wr) (fun _ i _ => 64 - (intOf i).toNat)
 case atStart => exact ⟨0, by omega, rfl, listed_nil _ _, Below.refl _ _⟩
 case round =>
  obtain ⟨k, hk, rfl, hL, hB⟩ := hrel
  have hlen := upto_length a k
  have hsz := hB.size
  by_cases hlt : k < 64
  ·have kh := hid fun w => RHas_any a k ha w
   cases hb : a.testBit k
   ·rw [show hasN a (k : Int) = false by rw [hasN_shr a k hlt, ← testBit_shr, hb]] at kh
    have HU := hid (upto_miss hb)
    clear hb
    go_wp2_with (go_at_call 64; refine (kh.out _).mono ?_; rintro e w' ⟨rfl, rfl⟩)
    exact ⟨⟨k + 1, by omega, by go_num, by rw [HU.out]; exact hL, hB⟩, by simp [intOf]; omega⟩
   ·rw [show hasN a (k : Int) = true by rw [hasN_shr a k hlt, ← testBit_shr, hb]] at kh
    have HU := hid (upto_hit hb)
    clear hb
    generalize hl : upto a k = l at *
    clear hl
    have hrow := hL.1
    go_wp2_with (first | (go_at_call 64; refine (kh.out _).mono ?_; rintro e w' ⟨rfl, rfl⟩) | (at_builtin; go_must (refine wpList_append_own _ rfl _ _ 87 rfl w.heap.size 3 i0 (.int .i64 0) 1 8 Tryz.underlying87 hi hz0 hz1 hz2 rfl (by decide) _ _ _ rfl (hrow.alloc _) ⟨wr.heap.size, 0, none⟩ 1 1 [.int .i64 (k : Int)] rfl rfl (cell_one_new _ _ _) (by simp [Value.oneCell']) (by unfold maxLen; omega) (by omega) (by simp; omega) ?_); intro v' w1 hown' hgrow _))
    exact ⟨⟨k + 1, by omega, by go_num, by rw [HU.out]; exact listed_snoc hown', below_append hB hsz hL hgrow⟩, by simp [intOf]; omega⟩
  ·obtain rfl : k = 64 := by omega
   go_wp2
   go_ret
   exact ⟨_, rfl, hL, hB⟩
end Go.Proofs.YtochckefnjobhaaGreatDoor.B1
namespace Go.Proofs.YtochckefnjobhaaGreatDoor.B1
open Go Go.RowKit Go.Shelf Go.Lib
def lowN (s k : Nat) : Nat := s % 2 ^ k
theorem lowN_hit {s k : Nat} (hk : k < 64) (h : s.testBit k = true) : lowN s (k + 1) = lowN s k + bitN (k : Int) := by
 rw [Nat.testBit_eq_decide_div_mod_eq, decide_eq_true_eq] at h
 unfold lowN bitN
 rw [Nat.mod_pow_succ, h, if_pos (by omega)]
 simp
theorem lowN_miss {s k : Nat} (h : s.testBit k = false) : lowN s (k + 1) = lowN s k := by
 rw [Nat.testBit_eq_decide_div_mod_eq, decide_eq_false_iff_not] at h
 unfold lowN
 rw [Nat.mod_pow_succ, show s / 2 ^ k % 2 = 0 by omega]
 simp
theorem lowN_all {s : Nat} (h : s < 18446744073709551616) : lowN s 64 = s := Nat.mod_eq_of_lt h
theorem lowN_le (s k : Nat) : lowN s k ≤ s := Nat.mod_le _ _
def inTake (l : List Int) (k j : Nat) : Bool := decide ((k : Int) ∈ l.take j)
theorem inTake_step {l : List Int} {k j : Nat} (hj : j < l.length) : inTake l k (j + 1) = (inTake l k j || (l.getD j 0 == (k : Int))) := by
 unfold inTake
 rw [take_snoc hj, Bool.eq_iff_iff]
 simp
 exact or_congr Iff.rfl eq_comm
theorem inTake_all {l : List Int} {k : Nat} (hk : k < 64) : inTake l k l.length = (ofN l).testBit k := by
 rw [testBit_ofN, inTake, List.take_length]; simp [hk]
set_option maxRecDepth 100000 in
set_option maxHeartbeats 1000000 in
theorem ROf_reads {v : Value} {l : List Int} {w : World} (hl : l.length ≤ 9223372036854775807) (h : Reads w v l) :
  Calls Tryz.prog 65 #[v] w fun e w' => e = .returned (u64 (ofN l)) ∧ w = w' := by
 obtain ⟨A, cap, rfl, hrd⟩ := h
 have HRD := hid hrd
 clear hrd
 have hof := ofN_lt l
 go_enter Tryz.func65, Tryz.ntmps65
 go_wp2
 go_loop [3, 4, 5, 6] (fun s n _ _ => ∃ k : Nat, k ≤ 64 ∧ n = .int .i64 (k : Int) ∧ s = u64 (lowN (ofN l) k)) (fun _ n _ _ => 64 - (intOf n).toNat)
 case atStart => exact ⟨0, by omega, rfl, by simp [lowN]⟩
 case round =>
  obtain ⟨k, hk, rfl, rfl⟩ := hrel
  by_cases hlt : k < 64
  ·have HA := hid (inTake_all (l := l) hlt)
   go_wp2
   go_loop [5, 6] (fun b i => ∃ j : Nat, j ≤ l.length ∧ i = .int .i64 (j : Int) ∧ b = .bool (inTake l k j)) (fun _ i => l.length - (intOf i).toNat)
   case atStart => exact ⟨0, Nat.zero_le _, rfl, by simp [inTake]⟩
   case round =>
    obtain ⟨j, hj, rfl, rfl⟩ := hrel
    by_cases hjl : j < l.length
    ·obtain ⟨b, off, rfl, hc⟩ := HRD.out (fun e => by rw [e] at hjl; simp at hjl)
     have g1 := hc j hjl
     clear hc
     have HS := hid (inTake_step (k := k) hjl)
     generalize hx : l.getD j 0 = x at *
     clear hx
     have hi : (0 : Int) ≤ (j : Int) := by omega
     have hi2 : (j : Int) < (l.length : Int) := by omega
     generalize inTake l k j = B at *
     cases B
     ·go_wp2
      exact ⟨⟨j + 1, by omega, by go_num, by rw [HS.out]; rfl⟩, by simp [intOf]; omega⟩
     ·go_wp2
      exact ⟨⟨j + 1, by omega, by go_num, by rw [HS.out]; rfl⟩, by simp [intOf]; omega⟩
    ·obtain rfl : j = l.length := by omega
     have HA2 := HA.out
     cases hb : (ofN l).testBit k
     ·rw [hb] at HA2
      rw [HA2]
      have HU := hid (lowN_miss hb)
      clear hb HA2
      go_wp2
      exact ⟨⟨k + 1, by omega, by go_num, by rw [HU.out]⟩, by simp [intOf]; omega⟩
     ·rw [hb] at HA2
      rw [HA2]
      have HU := hid (lowN_hit hlt hb)
      have h2 := lowN_le (ofN l) (k + 1)
      rw [HU.out] at h2
      clear hb HA2
      have kb := hid fun w => RBit_any k hlt w
      generalize lowN (ofN l) k = x at *
      generalize bitN (k : Int) = y at *
      go_wp2_with (go_at_call 66; refine (kb.out _).mono ?_; rintro e w' ⟨rfl, rfl⟩)
      exact ⟨⟨k + 1, by omega, by go_num, by rw [HU.out]; exact congrArg (Value.int .u64) (Int.natCast_add x y).symm⟩, by simp [intOf]; omega⟩
  ·obtain rfl : k = 64 := by omega
   go_wp2
   go_ret
   exact ⟨by rw [lowN_all hof]; rfl, rfl⟩
end Go.Proofs.YtochckefnjobhaaGreatDoor.B1
namespace Go.Proofs.YtochckefnjobhaaGreatDoor.B1
open Go Go.RowKit Go.Shelf Go.Lib
theorem ROf_listed {base s : Nat} {v : Value} {W : World} (hs : s < 18446744073709551616) (h : Listed base (upto s 64) W v) :
  Calls Tryz.prog 65 #[v] W fun e w' => e = .returned (u64 s) ∧ W = w' := by
 have hl := upto_length s 64
 have := ROf_reads (by simp [ints]; omega) h.reads
 rwa [show ofN (ints (upto s 64)) = s from ofN_upto hs] at this
set_option maxRecDepth 100000 in
set_option maxHeartbeats 1000000 in
theorem RMeet_any (a b : Nat) (ha : a < 18446744073709551616) (hb : b < 18446744073709551616) (w : World) :
  Calls Tryz.prog 59 #[u64 a, u64 b] w fun e W' => e = .returned (u64 (a &&& b)) ∧ Below w.heap.size w W' := by
 obtain ⟨i0, hi, hz0, hz1, hz2⟩ := info_parts info3
 have hs : a &&& b < 18446744073709551616 := and_lt ha b
 have tb : ∀ k, (a &&& b).testBit k = (a.testBit k && b.testBit k) := fun k => by rw [Nat.testBit_and]
 generalize a &&& b = S at *
 have TB := hid tb
 clear tb
 go_enter Tryz.func59, Tryz.ntmps59
 go_wp2
 go_loopw [5, 6] (fun v i wr => ∃ k : Nat, k ≤ 64 ∧ i = .int .i64 (k : Int) ∧ Listed w.heap.size (upto S k) wr v ∧ Below w.heap.size w wr) (fun _ i _ => 64 - (intOf i).toNat)
 case atStart => exact ⟨0, by omega, rfl, listed_nil _ _, Below.refl _ _⟩
 case round =>
  obtain ⟨k, hk, rfl, hL, hB⟩ := hrel
  have hlen := upto_length S k
  have hsz := hB.size
  by_cases hlt : k < 64
  ·have kha := hid fun w => RHas_any a k ha w
   have khb := hid fun w => RHas_any b k hb w
   have ta := TB.out k
   rw [hasN_shr a k hlt, ← testBit_shr] at kha
   rw [hasN_shr b k hlt, ← testBit_shr] at khb
   generalize a.testBit k = x at *
   generalize b.testBit k = y at *
   clear TB
   rcases (by cases x <;> cases y <;> simp : (x = false) ∨ (x = true ∧ y = false) ∨ (x = true ∧ y = true)) with rfl | ⟨rfl, rfl⟩ | ⟨rfl, rfl⟩
   ·have HU := hid (upto_miss (by simpa using ta))
    clear ta
    go_wp2_with (go_at_call 64; first | ((with_reducible refine (kha.out _).mono ?_); rintro e w' ⟨rfl, rfl⟩) | ((with_reducible refine (khb.out _).mono ?_); rintro e w' ⟨rfl, rfl⟩))
    exact ⟨⟨k + 1, by omega, by go_num, by rw [HU.out]; exact hL, hB⟩, by simp [intOf]; omega⟩
   ·have HU := hid (upto_miss (by simpa using ta))
    clear ta
    go_wp2_with (go_at_call 64; first | ((with_reducible refine (kha.out _).mono ?_); rintro e w' ⟨rfl, rfl⟩) | ((with_reducible refine (khb.out _).mono ?_); rintro e w' ⟨rfl, rfl⟩))
    exact ⟨⟨k + 1, by omega, by go_num, by rw [HU.out]; exact hL, hB⟩, by simp [intOf]; omega⟩
   ·have HU := hid (upto_hit (by simpa using ta))
    clear ta
    generalize upto S k = l at *
    have hrow := hL.1
    go_wp2_with (first | (go_at_call 64; first | ((with_reducible refine (kha.out _).mono ?_); rintro e w' ⟨rfl, rfl⟩) | ((with_reducible refine (khb.out _).mono ?_); rintro e w' ⟨rfl, rfl⟩)) | (at_builtin; go_must (refine wpList_append_own _ rfl _ _ 87 rfl w.heap.size 3 i0 (.int .i64 0) 1 8 Tryz.underlying87 hi hz0 hz1 hz2 rfl (by decide) _ _ _ rfl (hrow.alloc _) ⟨wr.heap.size, 0, none⟩ 1 1 [.int .i64 (k : Int)] rfl rfl (cell_one_new _ _ _) (by simp [Value.oneCell']) (by unfold maxLen; omega) (by omega) (by simp; omega) ?_); intro v' w1 hown' hgrow _))
    exact ⟨⟨k + 1, by omega, by go_num, by rw [HU.out]; exact listed_snoc hown', below_append hB hsz hL hgrow⟩, by simp [intOf]; omega⟩
  ·obtain rfl : k = 64 := by omega
   go_wp2_with (go_at_call 65; refine (ROf_listed hs hL).mono ?_; rintro e w' ⟨rfl, rfl⟩)
   go_ret
   exact ⟨rfl, hB⟩
end Go.Proofs.YtochckefnjobhaaGreatDoor.B1
