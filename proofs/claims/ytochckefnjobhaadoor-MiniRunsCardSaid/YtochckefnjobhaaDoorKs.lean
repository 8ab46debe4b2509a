/- What the laws of mini call, by automata that lie. -/
import Derived.Test.YtochckefnjobhaaDoorKr
namespace Go.Proofs.X6
open Go Go.RowKit Go.Lib
open X5 (Aut rowOf)
set_option linter.unusedVariables false
set_option linter.unusedSimpArgs false
/-- It is the least one of D. -/
def IsL (D M : Aut) : Prop := ∃ Bk st, Blk (rowOf D 0).length D Bk ∧ IsJ D Bk M st
theorem Ok.pos {D : Aut} {K : Nat} (h : Ok D K) : 0 < D.next.length := List.length_pos_iff.2 h.some_
theorem IsL.ok {D M : Aut} (hv : Vd D) (h : IsL D M) : Ok M (rowOf D 0).length := by
  obtain ⟨Bk, st, hb, hj⟩ := h
  exact hj.ok hv.ok hb
theorem IsL.row {D M : Aut} (hv : Vd D) (h : IsL D M) : (rowOf M 0).length = (rowOf D 0).length := (h.ok hv).rows 0 (h.ok hv).pos
theorem IsL.cls {D M : Aut} (h : IsL D M) : M.cls = D.cls := by
  obtain ⟨Bk, st, hb, hj⟩ := h
  exact hj.1
theorem IsL.vd {D M : Aut} (hv : Vd D) (h : IsL D M) : Vd M :=
  ⟨by rw [h.row hv]; exact h.ok hv, fun c hc => by rw [h.row hv]; rw [h.cls] at hc; exact hv.cls c hc⟩
theorem IsL.few {D M : Aut} (hv : Vd D) (h : IsL D M) : M.next.length ≤ D.next.length := by
  obtain ⟨Bk, st, hb, hj⟩ := h
  exact hj.few hv.ok hb
/-- Not many states, not many classes. -/
def Few (D : Aut) : Prop := D.next.length ≤ 1000000 ∧ D.tags.length ≤ 1000000 ∧ (rowOf D 0).length ≤ 1000000 ∧ D.next.length * (rowOf D 0).length ≤ 1000000
theorem Lit.few {D : Aut} (h : Lit D) : Few D := by
  have h0 : (rowOf D 0).length ≤ 20 := by
    unfold rowOf
    rw [List.getD_eq_getElem?_getD]
    cases hx : D.next[0]? with
    | none => simp
    | some r => exact h.2.2 r (List.mem_of_getElem? hx)
  have h1 := h.1
  have h2 := h.2.1
  refine ⟨by omega, by omega, by omega, ?_⟩
  have : D.next.length * (rowOf D 0).length ≤ 30 * 20 := Nat.mul_le_mul (by omega) h0
  omega
theorem IsL.small {D M : Aut} (hv : Vd D) (hf : Few D) (h : IsL D M) : Few M := by
  have h1 := h.few hv
  have h2 := h.row hv
  have h3 := (h.ok hv).tags
  obtain ⟨f1, f2, f3, f4⟩ := hf
  refine ⟨by omega, by omega, by omega, ?_⟩
  rw [h2]
  exact Nat.le_trans (Nat.mul_le_mul_right _ h1) f4
theorem IsL.again {D M N : Aut} (hv : Vd D) (h : IsL D M) (g : IsL M N) : N = M := by
  obtain ⟨Bk, st, hb, hj⟩ := h
  obtain ⟨Ck, su, hc, hk⟩ := g
  have hr := IsL.row hv ⟨Bk, st, hb, hj⟩
  rw [hr] at hc
  exact hj.again hv.ok hb hc hk
theorem Vd.cl {D : Aut} (hv : Vd D) (hl : D.cls.length = 256) : ∀ b, b < 256 → 0 ≤ D.cls.getD b 0 ∧ D.cls.getD b 0 < ((rowOf D 0).length : Int) := fun b hb =>
  hv.cls _ (X6.getD_mem (by omega))
theorem IsL.run {D M : Aut} (hv : Vd D) (hl : D.cls.length = 256) (h : IsL D M) (s : List UInt8) : X5.runX M s = X5.runX D s := by
  obtain ⟨Bk, st, hb, hj⟩ := h
  exact hj.run hv.ok hb (hv.cl hl) s
theorem IsL.one {D E M N : Aut} (hv : Vd D) (hE : Ok E (rowOf D 0).length) (h0 : Eqv (rowOf D 0).length D 0 E 0) (hc : D.cls = E.cls) (h : IsL D M) (g : IsL E N) : M = N := by
  obtain ⟨Bk, st, hb, hj⟩ := h
  obtain ⟨Ck, su, hc', hk⟩ := g
  rw [hE.rows 0 hE.pos] at hc'
  exact IsJ.one hv.ok hE hb hc' h0 hc hj hk
end Go.Proofs.X6
namespace Go.Proofs.YtochckefnjobhaaDoor
open Go Go.RowKit Go.Lib
open X5 (Aut)
set_option linter.unusedVariables false
set_option linter.unusedSimpArgs false
/-- An automaton's value, as it lies. -/
def Lies (D : Aut) (dd : Array Value) (w : World) : Prop := ∃ nv tv, dd = dval D nv tv ∧ DAt w nv tv D
theorem Lies.below {D : Aut} {dd : Array Value} {w w' : World} (h : Lies D dd w) (hb : Below w.heap.size w w') : Lies D dd w' := by
  obtain ⟨nv, tv, e, h⟩ := h
  exact ⟨nv, tv, e, h.below hb⟩
theorem Lies.sz {D : Aut} {dd : Array Value} {w : World} (h : Lies D dd w) : dd.size = 258 ∧ dd.all (·.oneCell') = true ∧ (∃ o c, dd[256]? = some (.slice o D.next.length c)) ∧ D.cls.length = 256 := by
  obtain ⟨nv, tv, rfl, h⟩ := h
  obtain ⟨o, c, hc⟩ := rows_shape h.rows
  refine ⟨dval_size h, dval_one' h, ⟨o, c, ?_⟩, h.len⟩
  rw [dcell_next h.len, hc]
theorem Lies.mid {D : Aut} {dd : Array Value} {w : World} (h : Lies D dd w) : ∃ nv tv, ivs D.cls ++ #[nv, tv] = dd := by
  obtain ⟨nv, tv, rfl, h⟩ := h
  exact ⟨nv, tv, rfl⟩
theorem little_at {D : Aut} {dd : Array Value} {w : World} (h : Lies D dd w) : Calls Tryd.prog 20 #[.agg dd] w fun e w' => ∃ b : Bool, e = .returned (.bool b) ∧ (b = true ↔ X6.Lit D) ∧ Below w.heap.size w w' := by
  obtain ⟨nv, tv, rfl, h⟩ := h
  exact little_any h
theorem valid_at {D : Aut} {dd : Array Value} {w : World} (h : Lies D dd w) (hf : X6.Few D) : Calls Tryd.prog 14 #[.agg dd] w fun e w' => ∃ b : Bool, e = .returned (.bool b) ∧ (b = true ↔ X6.Vd D) ∧ Below w.heap.size w w' := by
  obtain ⟨nv, tv, rfl, h⟩ := h
  exact valid2_any h hf.1 hf.2.1
theorem valid_yes {D : Aut} {dd : Array Value} {w : World} (h : Lies D dd w) (hf : X6.Few D) (hv : X6.Vd D) : Calls Tryd.prog 14 #[.agg dd] w fun e w' => e = .returned (.bool true) ∧ Below w.heap.size w w' := by
  refine (valid_at h hf).mono fun e w' hq => ?_
  obtain ⟨b, rfl, hb, hbl⟩ := hq
  rw [hb.2 hv]
  exact ⟨rfl, hbl⟩
theorem valid_no {D : Aut} {dd : Array Value} {w : World} (h : Lies D dd w) (hf : X6.Few D) (hv : ¬ X6.Vd D) : Calls Tryd.prog 14 #[.agg dd] w fun e w' => e = .returned (.bool false) ∧ Below w.heap.size w w' := by
  refine (valid_at h hf).mono fun e w' hq => ?_
  obtain ⟨b, rfl, hb, hbl⟩ := hq
  cases b with
  | true => exact absurd (hb.1 rfl) hv
  | false => exact ⟨rfl, hbl⟩
theorem least_no {D : Aut} {dd : Array Value} {w : World} (h : Lies D dd w) (hf : X6.Few D) (hv : ¬ X6.Vd D) : Calls Tryd.prog 21 #[.agg dd] w fun e w' => e = .returned (.tuple #[.agg dvz, .int .i64 1]) ∧ Below w.heap.size w w' := by
  obtain ⟨nv, tv, rfl, h⟩ := h
  refine (least_any h hf.1 hf.2.1 hf.2.2.1 hf.2.2.2).mono fun e w' hq => ?_
  rcases hq with ⟨_, rfl, hb⟩ | ⟨hn, _⟩
  · exact ⟨rfl, hb⟩
  · exact absurd hn hv
theorem least_yes {D : Aut} {dd : Array Value} {w : World} (h : Lies D dd w) (hf : X6.Few D) (hv : X6.Vd D) : Calls Tryd.prog 21 #[.agg dd] w fun e w' => ∃ M dm, e = .returned (.tuple #[.agg dm, .int .i64 0]) ∧ Lies M dm w' ∧ X6.IsL D M ∧ Below w.heap.size w w' := by
  obtain ⟨nv, tv, rfl, h⟩ := h
  refine (least_any h hf.1 hf.2.1 hf.2.2.1 hf.2.2.2).mono fun e w' hq => ?_
  rcases hq with ⟨hn, _⟩ | ⟨_, Bk, M, st, nv', tv', rfl, hb, hj, hd, hbl⟩
  · exact absurd hv hn
  exact ⟨M, _, rfl, ⟨nv', tv', rfl, hd.at_⟩, ⟨Bk, st, hb, hj⟩, hbl⟩
theorem same_at {D : Aut} {dd de : Array Value} {w : World} (h : Lies D dd w) (g : Lies D de w) : Calls Tryd.prog 22 #[.agg dd, .agg de] w fun e w' => e = .returned (.bool true) ∧ Below w.heap.size w w' := by
  obtain ⟨nv, tv, rfl, h⟩ := h
  obtain ⟨nu, tu, rfl, g⟩ := g
  refine (same_any h g).mono fun e w' hq => ?_
  rw [sameX_eq.2 rfl] at hq
  exact hq
theorem run_at {D : Aut} {dd : Array Value} {w : World} (h : Lies D dd w) (s : ByteArray) (hs : s.size < 9223372036854775808) : Calls Tryd.prog 15 #[.agg dd, .string s] w fun e w' => e = .returned (.int .u64 (X5.runX D (LL s) : Int)) ∧ Below w.heap.size w w' := by
  obtain ⟨nv, tv, rfl, h⟩ := h
  exact run_dfa h s hs
section
variable {o : Oper} {a : Act} {W w : World} {C : World → Prop}
theorem quiet_load30 (p : Operand) (hop : o.op = .load 30 p) (g : Nat) (hp : a.eval p = .pointer (some ⟨g, 0, none⟩)) (cs : Array Value) (hC : Below W.heap.size W w) (hb : Bxx g cs W) (h1 : cs.size = 258) : o.quietAt Tryd.prog a C w (.agg cs) := by
  unfold Oper.quietAt
  rw [exec_load30 p hop g hp cs (hb.below hC) h1]
  exact ⟨rfl, rfl⟩
theorem exec_load26 (p : Operand) (hop : o.op = .load 26 p) (g : Nat) (hp : a.eval p = .pointer (some ⟨g, 0, none⟩)) (cv : Array Value) (nv tv : Value) (dc : Array Value) (hd : cv ++ #[nv, tv] = dc) (hb : w.heap[g]? = some (.cells dc 30 (0, 0))) (h1 : cv.size = 256) :
    (execOp a.eval o).run Tryd.prog w = .ok (.value (.agg cv)) w := by
  subst hd
  have hl : (loadCells ⟨g, 0, none⟩ cv.toList.length).run Tryd.prog w = .ok cv.toList.toArray w :=
    run_loadCells_list (P := Tryd.prog) w ⟨g, 0, none⟩ cv.toList (fun j v hv => by
      have hadd : (⟨g, 0, none⟩ : Addr).add j = ⟨g, j, none⟩ := by unfold Addr.add; split <;> simp_all
      have hj : j < cv.size := by
        have := (List.getElem?_eq_some_iff.1 hv).1
        rwa [Array.length_toList] at this
      rw [hadd, cell_of_row w g j _ 30 (0, 0) hb, Array.getElem?_append_left hj, ← Array.getElem?_toList]
      exact hv)
  rw [Array.length_toList, h1] at hl
  have hag : (isAgg 26).run Tryd.prog w = .ok true w := by kernel_rfl
  have hsz : (sizeOf 26).run Tryd.prog w = .ok 256 w := by kernel_rfl
  have hrun : (loadVar 26 ⟨g, 0, none⟩).run Tryd.prog w = .ok (.agg cv) w := by
    simp [loadVar, Sem.run_bind, hag, hsz, hl, Result.andThen]
  simp only [execOp, hop, hp, Instr.loadAt, Instr.sureAddr, Sem.run_bind, Sem.run_pure, Result.andThen_ok, hrun]
theorem quiet_load26 (p : Operand) (hop : o.op = .load 26 p) (g : Nat) (hp : a.eval p = .pointer (some ⟨g, 0, none⟩)) {D : Aut} (dc : Array Value) (hC : Below W.heap.size W w) (hL : Lies D dc W) (hb : Bxx g dc W) : o.quietAt Tryd.prog a C w (.agg (ivs D.cls)) := by
  obtain ⟨nv, tv, hd⟩ := hL.mid
  unfold Oper.quietAt
  rw [exec_load26 p hop g hp (ivs D.cls) nv tv dc hd (hb.below hC) (by rw [ivs_size]; exact hL.sz.2.2.2)]
  exact ⟨rfl, rfl⟩
end
end Go.Proofs.YtochckefnjobhaaDoor
