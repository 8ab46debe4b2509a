/- regex's reader: the whole. -/
import Derived.Test.YtndefngkkikkeaaRq
import Derived.Defers
import Derived.Recover
import Derived.Laws.Pointers
namespace Go.Proofs.Ytndefngkkikkeaa
open Go Go.RowKit Go.Lib
set_option linter.unusedVariables false
set_option linter.unusedSimpArgs false

theorem one_cell {w : World} {k : Nat} {t : TypeId} {b0 : Value} (h : w.heap[k]? = some (.cells #[b0] t (0, 0))) (a0 : Value) :
    ∃ w8, (w.setCell ⟨k, 0, none⟩ a0) = w8 ∧ w8.heap[k]? = some (.cells #[a0] t (0, 0)) ∧ Gr k w w8 ∧ w8.heap.size = w.heap.size :=
  ⟨_, rfl, heap_setCell_same _ k 0 _ t a0 h, gr_set (Gr.refl k w) 0 _, by simp⟩

set_option maxRecDepth 100000 in
set_option maxHeartbeats 2000000 in
theorem catch_idle (p q : Addr) (w : World) :
    CallsD Try.prog 27 #[.pointer (some p), .pointer (some q)] .returning w fun e u' w' => e = .returned (.tuple #[]) ∧ u' = .returning ∧ w' = w := by
  refine callsD_of_wpS Try.func27 rfl fun c₀ cs hu => ?_
  simp only [Try.ntmps27, List.size_toArray, List.length_cons, List.length_nil, Nat.reduceAdd, Nat.reduceSub, Array.replicate_succ, Array.replicate_zero, List.push_toArray, List.append_toArray, List.nil_append, List.cons_append]
  apply wpS_seq
  apply wpS_region
  simp [wpOpsS, go_sem, recoverD, hu, Exit.thenS]
  apply wpS_seq
  apply wpS_region
  simp [wpOpsS, go_sem, recoverD, hu, Exit.thenS]
  refine wpS_cond (t := false) (by simp [Act.eval]) ?_
  simp only [Bool.false_eq_true, if_false]
  refine wpS_of_wp (wp_skip ?_)
  cases c₀
  simp_all [bodyPostS, results, Try.results27]

theorem assert67 (W : World) (v : Value) : (Instr.typeAssert (.iface 67 v) 20 67 true).run Try.prog W = .ok (.tuple #[v, .bool true]) W := by kernel_rfl

set_option maxRecDepth 100000 in
set_option maxHeartbeats 2000000 in
theorem catch_panicking (p q : Nat) (n : Int) (w : World) (hp : ∃ a0 a1 a2 a3 a4 a5, w.heap[p]? = some (.cells #[a0, a1, a2, a3, a4, a5] 28 (0, 0))) (hq : ∃ v, w.heap[q]? = some (.cells #[v] 29 (0, 0))) (hpq : p ≠ q) :
    CallsD Try.prog 27 #[.pointer (some ⟨p, 0, none⟩), .pointer (some ⟨q, 0, none⟩)] (.panicking [{ v := .iface 67 (.agg #[.int .i64 n]), recovered := false }]) w fun e u' w' =>
      e = .returned (.tuple #[]) ∧ u' = .panicking [{ v := .iface 67 (.agg #[.int .i64 n]), recovered := true }] ∧
      (w'.heap[p]? = some (.cells zero6 28 (0, 0)) ∧ w'.heap[q]? = some (.cells #[.int .i64 n] 29 (0, 0)) ∧ w'.os = w.os ∧ w'.tape = w.tape ∧ w'.output = w.output ∧ w.heap.size ≤ w'.heap.size ∧ ∀ k, k < w.heap.size → k ≠ p → k ≠ q → w'.heap[k]? = w.heap[k]?) := by
  refine callsD_of_wpS Try.func27 rfl fun c₀ cs hu => ?_
  simp only [Try.ntmps27, List.size_toArray, List.length_cons, List.length_nil, Nat.reduceAdd, Nat.reduceSub, Array.replicate_succ, Array.replicate_zero, List.push_toArray, List.append_toArray, List.nil_append, List.cons_append]
  apply wpS_seq
  apply wpS_region
  simp [wpOpsS, go_sem, recoverD, hu, Exit.thenS]
  apply wpS_seq
  apply wpS_region
  simp [wpOpsS, go_sem, recoverD, hu, Exit.thenS]
  refine wpS_cond (t := true) (by simp [Act.eval]) ?_
  simp only [if_true]
  refine wpS_of_wp ?_
  have hta := assert67
  obtain ⟨a0, a1, a2, a3, a4, a5, hp⟩ := hp
  obtain ⟨v0, hq⟩ := hq
  have hpl : p < w.heap.size := (Array.getElem?_eq_some_iff.1 hp).1
  have hql : q < w.heap.size := (Array.getElem?_eq_some_iff.1 hq).1
  obtain ⟨w0, e0⟩ : ∃ w0, w.alloc (.cells #[.int .i64 n] 67) = w0 := ⟨_, rfl⟩
  have hb0 : Below w.heap.size w w0 := by rw [← e0]; exact (Below.refl _ _).alloc (Nat.le_refl _) _
  have hv0 : w0.heap[w.heap.size]? = some (.cells #[.int .i64 n] 67 (0, 0)) := by rw [← e0]; exact new_block _ _
  have hs0 : w0.heap.size = w.heap.size + 1 := by rw [← e0]; simp
  have hp0 := (hb0.block p hpl).trans hp
  have hq0 := (hb0.block q hql).trans hq
  go_upto_region 5 with fail
  have x0 : w0.cell? ⟨w.heap.size, 0, none⟩ = some (.int .i64 n) := by rw [Lib.cell_of_heap hv0]; rfl
  refine region_T 4 (fun w' => w'.cell? ⟨w.heap.size, 0, none⟩ = some (.int .i64 n)) (by kernel_rfl) x0 (fun inv hHeld => ?_)
  obtain ⟨wd, hwd⟩ : ∃ wd, w0.drew = wd := ⟨_, rfl⟩
  have hpd : wd.heap[p]? = some (.cells #[a0, a1, a2, a3, a4, a5] 28 (0, 0)) := by rw [← hwd]; exact hp0
  have hqd : wd.heap[q]? = some (.cells #[v0] 29 (0, 0)) := by rw [← hwd]; exact hq0
  have hvd : wd.heap[w.heap.size]? = some (.cells #[.int .i64 n] 67 (0, 0)) := by rw [← hwd]; exact hv0
  have hsd : wd.heap.size = w.heap.size + 1 := by rw [← hwd]; exact hs0
  have hbd : Below w.heap.size w wd := by rw [← hwd]; exact hb0.drew
  rw [hwd] at hHeld ⊢
  clear hwd hp0 hq0 hv0 hs0 hb0 e0 x0
  refine anyT_take (i := 0) (oi := { dst := some 16, op := Op.build 28 #[], type := 28, pos := "parse.go:34", after := #[], guard := none }) (v := ?_) rfl (by kernel_rfl) (by kernel_rfl) (by kernel_rfl) (by decide) (by decide) (by kernel_rfl) (by kernel_rfl) (fun _ _ _ h => h) (Or.inl ⟨by rfl, ?_⟩) hHeld inv (fun inv => ?_)
  rotate_left
  · intro w hSw
    try dsimp only at hSw
    go_simp
    try with_reducible rfl
  simp only [Act.put, List.setIfInBounds_toArray, List.set_cons_zero, List.set_cons_succ]
  refine anyT_take (i := 1) (oi := { dst := some 17, op := Op.fieldAddr 67 (Operand.tmp 3) 0, type := 0, pos := "parse.go:34", after := #[{ on := 3, ground := Ground.gcOnly Departure.lateStores }], guard := none }) (v := ?_) rfl (by kernel_rfl) (by kernel_rfl) (by kernel_rfl) (by decide) (by decide) (by kernel_rfl) (by kernel_rfl) (fun _ _ _ h => h) (Or.inl ⟨by rfl, ?_⟩) hHeld inv (fun inv => ?_)
  rotate_left
  · intro w hSw
    try dsimp only at hSw
    go_simp
    try with_reducible rfl
  simp only [Act.put, List.setIfInBounds_toArray, List.set_cons_zero, List.set_cons_succ]
  refine anyT_take (i := 2) (oi := { dst := some 18, op := Op.load 29 (Operand.tmp 17), type := 29, pos := "parse.go:34", after := #[{ on := 1, ground := Ground.data }, { on := 3, ground := Ground.gcOnly Departure.lateStores }], guard := none }) (v := ?_) rfl (by kernel_rfl) (by kernel_rfl) (by kernel_rfl) (by decide) (by decide) (by kernel_rfl) (by kernel_rfl) (fun _ _ _ h => h) (Or.inl ⟨by rfl, ?_⟩) hHeld inv (fun inv => ?_)
  rotate_left
  · intro w hSw
    try dsimp only at hSw
    go_simp
    try with_reducible rfl
  simp only [Act.put, List.setIfInBounds_toArray, List.set_cons_zero, List.set_cons_succ]
  obtain ⟨n0, n1, n2, n3, n4, n5⟩ := cells6 hpd
  obtain ⟨f0, f1, f2, f3, f4, f5⟩ := frozen6 hpd
  obtain ⟨w8, e8, hz8, hg8, hs8⟩ := six hpd (.int .i64 0) (.int .u64 0) (.int .u64 0) (.int .u64 0) (.int .u64 0) (.slice none 0 0)
  have hq8 := (hg8.block q (by omega) (fun e => hpq (Option.some.inj e).symm)).trans hqd
  have hx8 := (hg8.block w.heap.size (by omega) (fun e => by have := Option.some.inj e; omega)).trans hvd
  have x8 : w8.cell? ⟨w.heap.size, 0, none⟩ = some (.int .i64 n) := by rw [Lib.cell_of_heap hx8]; rfl
  have y0 : w8.cell? ⟨q, 0, none⟩ = some v0 := by rw [Lib.cell_of_heap hq8]; rfl
  have z0 : w8.frozen? ⟨q, 0, none⟩ = false := Lib.frozen_of_heap hq8 0
  obtain ⟨w9, e9, hz9, hg9, hs9⟩ := one_cell hq8 (.int .i64 n)
  refine anyT_next (i := 3) (o := { dst := none, op := Op.store 28 (Operand.tmp 0) (Operand.tmp 16), type := 0, pos := "parse.go:34", after := #[{ on := 0, ground := Ground.data }, { on := 0, ground := Ground.phase }, { on := 1, ground := Ground.textOnly Departure.lateStores }, { on := 2, ground := Ground.textOnly Departure.lateStores }], guard := none }) (by kernel_rfl) rfl (by decide) inv (fun inv K' hK => ?_)
  go_simp
  refine hK.out _ _ x8 ?_
  clear hK K'
  try simp only [Act.put, List.setIfInBounds_toArray, List.set_cons_zero, List.set_cons_succ]
  refine anyT_one (i := 4) (o := { dst := none, op := Op.store 29 (Operand.tmp 1) (Operand.tmp 18), type := 0, pos := "parse.go:34", after := #[{ on := 2, ground := Ground.data }, { on := 3, ground := Ground.chain }, { on := 0, ground := Ground.phase }, { on := 1, ground := Ground.phase }, { on := 2, ground := Ground.phase }, { on := 3, ground := Ground.phase }], guard := none }) (by kernel_rfl) rfl (fun K' hK => ?_)
  go_simp
  refine hK.out _ _ (fun h => absurd h (by decide)) ?_
  clear hK K'
  try simp only [Act.put, List.setIfInBounds_toArray, List.set_cons_zero, List.set_cons_succ]
  refine anyT_done (by kernel_rfl) ?_ _
  show bodyPostS Try.prog Try.f27 c₀ cs _ Exit.normal _ _ w9
  have hp9 := (hg9.block p (by omega) (fun e => hpq (Option.some.inj e))).trans hz8
  have hG : Below w.heap.size w wd := hbd
  simp [bodyPostS, results, Try.results27]
  exact ⟨hp9, hz9, hg9.os.trans (hg8.os.trans hbd.os), hg9.tape.trans (hg8.tape.trans hbd.tape), hg9.output.trans (hg8.output.trans hbd.output), by omega, fun k hk h1 h2 => (hg9.block k (by omega) (fun e => h2 (Option.some.inj e))).trans ((hg8.block k (by omega) (fun e => h1 (Option.some.inj e))).trans (hbd.block k hk))⟩
end Go.Proofs.Ytndefngkkikkeaa
