/- bits.Count, bits.First: what they hand back of any set. -/
import Derived.Test.YtlkplncfiohlcaaBf
namespace Go.Proofs.Ytlkplncfiohlcaa
open Go Go.RowKit Go.Shelf Go.Lib
attribute [local go_sem] Oper.semAt_some

set_option maxRecDepth 100000 in
set_option maxHeartbeats 2000000 in
theorem Count_in (F : Fence) (n : Nat) (h22 : F.fn 22) (h45 : F.fn 45) (h51 : F.fn 51) (hro : F.round = none) (hn : 3 ≤ n) (s : Nat) (hs : s < 18446744073709551616) (w : World) :
    CallsIn F n Try.prog 22 #[.int .u64 (s : Int)] w fun e W' => e = .returned (.int .i64 ((upto s 64).length : Int)) ∧ Below w.heap.size w W' := by
  have h1 : 1 ≤ n := by omega
  refine callsIn_of_wp_marks Try.func22 rfl h22 ?_ hro
  simp only [Try.ntmps22, List.size_toArray, List.length_cons, List.length_nil, Nat.reduceAdd, Nat.reduceSub, Array.replicate_succ, Array.replicate_zero, List.push_toArray, List.append_toArray, List.nil_append, List.cons_append]
  gi_wp2_with (gi_at_call 45; refine (each_in F (n - 1) h45 hro _ _).mono ?_; rintro e w' ⟨rfl, rfl⟩)
  have bN := Boxed.new (w.alloc (.cells #[.int .i64 0] 3)) 23 (.int .u64 (s : Int))
  have bO := Boxed.new w 3 (.int .i64 0)
  rw [World.size_alloc] at bN
  have hB0 : Below w.heap.size w ((w.alloc (.cells #[.int .i64 0] 3)).alloc (.cells #[.int .u64 (s : Int)] 23)) := ((Below.refl _ w).alloc (Nat.le_refl _) _).alloc (by simp) _
  refine wpIn_rangeFunc_cell hro h1 (gf := 51) (lb := #[.pointer (some ⟨w.heap.size + 1, 0, none⟩)]) rfl h51 (enters_of Try.func51 (by kernel_rfl) rfl)
    (each1_seq F (n - 1) h51 hro (by omega) (w.heap.size + 1) s hs _ bN) (by simp) (fun _ => rfl)
    (fun pre W => Boxed W w.heap.size 3 (.int .i64 (pre.length : Int)) ∧ Below w.heap.size w W ∧ w.heap.size + 2 ≤ W.heap.size)
    (fun _ _ _ => False)
    (OwnFrom.and (Own.from (boxed_own w.heap.size 3 (fun pre : List Nat => Value.int .i64 (pre.length : Int))) _) (OwnFrom.and (ownFrom_below (Nat.le_refl _) (by simp; omega)) (fun s A B row hs hg hr => Nat.le_trans hs hg.size)))
    (fun s A B ⟨hv, hB, hz⟩ hg => ⟨hv.kept hg (by simp), hB.grown hg hB.size (fun k e => by cases e; omega), Nat.le_trans hz hg.size⟩)
    (fun _ _ _ _ _ hs _ _ => hs) ⟨bO.alloc _, hB0, by simp⟩
    (fun x => { tmps := #[.int .u64 (s : Int), undef, .int .i64 0, .pointer (some ⟨w.heap.size, 0, none⟩), .int .u64 (s : Int), .func (.func 51) #[] #[.pointer (some ⟨w.heap.size + 1, 0, none⟩)], .int .i64 (x : Int), undef, undef, undef], defers := [] }) ?assign ?body ?done ?stop
  case assign =>
    intro l x W K hK
    gi_wp2
    simpa using hK
  case body =>
    rintro l pre x W ⟨hv, hB, hsz⟩ hlt
    have hc := hv.cell
    have hf := hv.frozen
    gi_wp2
    refine ⟨KeepsFrom.of_grownBy (grownBy_setCell' _ _ _) (fun j e => by cases e; simp; omega), Below.heap_setCell _ _ _ _ (by simp), ?_, hB.setCell (p := ⟨w.heap.size, 0, none⟩) (Nat.le_refl _) _, by have := (grownBy_setCell' W w.heap.size (.int .i64 ((pre.length : Int) + 1))).size; omega⟩
    have := hv.set (.int .i64 ((pre.length : Int) + 1))
    simpa using this
  case done =>
    rintro D ys W hD rfl ⟨hv, hB, _⟩ hK
    have hc := hv.cell
    gi_wp2
    refine ⟨by simp, .inl ⟨_, _, rfl, run_takeDeferred hK, ?_⟩⟩
    exact ⟨_, results_tmp rfl _ _ _, rfl, hB.trans (belowK_b (w := w) (Nat.le_refl _) W D _ _ (by simp at hD; omega) hK rfl rfl)⟩
  case stop =>
    rintro D pre W _ _ h _
    exact h.elim

/-- The first of a list, or -1. -/
def firstOf : List Nat → Int
  | [] => -1
  | x :: _ => (x : Int)

set_option maxRecDepth 100000 in
set_option maxHeartbeats 2000000 in
theorem First_in (F : Fence) (n : Nat) (h23 : F.fn 23) (h45 : F.fn 45) (h51 : F.fn 51) (hro : F.round = none) (hn : 3 ≤ n) (s : Nat) (hs : s < 18446744073709551616) (w : World) :
    CallsIn F n Try.prog 23 #[.int .u64 (s : Int)] w fun e W' => e = .returned (.int .i64 (firstOf (upto s 64))) ∧ Below w.heap.size w W' := by
  have h1 : 1 ≤ n := by omega
  refine callsIn_of_wp_marks Try.func23 rfl h23 ?_ hro
  simp only [Try.ntmps23, List.size_toArray, List.length_cons, List.length_nil, Nat.reduceAdd, Nat.reduceSub, Array.replicate_succ, Array.replicate_zero, List.push_toArray, List.append_toArray, List.nil_append, List.cons_append]
  gi_wp2_with (gi_at_call 45; refine (each_in F (n - 1) h45 hro _ _).mono ?_; rintro e w' ⟨rfl, rfl⟩)
  have bN := Boxed.new (w.alloc (.cells #[.int .i64 0] 3)) 23 (.int .u64 (s : Int))
  have bO := Boxed.new w 3 (.int .i64 0)
  rw [World.size_alloc] at bN
  have hB0 : Below w.heap.size w ((w.alloc (.cells #[.int .i64 0] 3)).alloc (.cells #[.int .u64 (s : Int)] 23)) := ((Below.refl _ w).alloc (Nat.le_refl _) _).alloc (by simp) _
  refine wpIn_rangeFunc_cell hro h1 (gf := 51) (lb := #[.pointer (some ⟨w.heap.size + 1, 0, none⟩)]) rfl h51 (enters_of Try.func51 (by kernel_rfl) rfl)
    (each1_seq F (n - 1) h51 hro (by omega) (w.heap.size + 1) s hs _ bN) (by simp) (fun _ => rfl)
    (fun pre W => pre = [] ∧ Boxed W w.heap.size 3 (.int .i64 0) ∧ Below w.heap.size w W)
    (fun _ pre W => ∃ x : Nat, pre = [x] ∧ Boxed W w.heap.size 3 (.int .i64 (x : Int)) ∧ Below w.heap.size w W)
    (OwnFrom.and (ownFrom_pure _ (fun pre => pre = [])) (OwnFrom.and (Own.from (boxed_own w.heap.size 3 (fun _ : List Nat => Value.int .i64 0)) _) (ownFrom_below (Nat.le_refl _) (by simp; omega))))
    (fun s A B ⟨hp, hv, hB⟩ hg => ⟨hp, hv.kept hg (by simp), hB.grown hg hB.size (fun k e => by cases e; omega)⟩)
    (fun c s A B row ⟨x, hp, hv, hB⟩ hg hr => ⟨x, hp, boxed_own w.heap.size 3 (fun _ : Unit => Value.int .i64 (x : Int)) () A B row hv hg (fun r e => (hr r e).2), ownFrom_below (β := Unit) (Nat.le_refl _) (by simp; omega) () A B row hB hg hr⟩)
    ⟨rfl, bO.alloc _, hB0⟩
    (fun x => { tmps := #[.int .u64 (s : Int), undef, .pointer (some ⟨w.heap.size, 0, none⟩), .int .i64 (x : Int), .int .u64 (s : Int), .func (.func 51) #[] #[.pointer (some ⟨w.heap.size + 1, 0, none⟩)], .int .i64 (x : Int), undef], defers := [] }) ?assign ?body ?done ?stop
  case assign =>
    intro l x W K hK
    gi_wp2
    exact hK
  case body =>
    rintro l pre x W ⟨rfl, hv, hB⟩ hlt
    have hc := hv.cell
    have hf := hv.frozen
    gi_wp2
    exact ⟨KeepsFrom.of_grownBy (grownBy_setCell' _ _ _) (fun j e => by cases e; simp; omega), x, rfl, hv.set _, hB.setCell (p := ⟨w.heap.size, 0, none⟩) (Nat.le_refl _) _⟩
  case done =>
    rintro D ys W hD rfl ⟨hp, hv, hB⟩ hK
    have hc := hv.cell
    have hf := hv.frozen
    have hne : D ≠ w.heap.size := by simp at hD; omega
    gi_wp2
    have hK2 : (W.setCell ⟨w.heap.size, 0, none⟩ (.int .i64 (-1))).heap[D]? = some (.deferred (some [])) := (Below.heap_setCell _ _ _ _ hne).trans hK
    refine ⟨by simp, .inl ⟨_, _, rfl, run_takeDeferred hK2, ?_⟩⟩
    have hc5 := cell_kept (hv.set (.int .i64 (-1))).cell (grownBy_putObj' _ D (.deferred none)) (fun r e => by cases e; exact ⟨_, hK2, rfl⟩)
    refine ⟨.int .i64 (-1), ?_, by rw [hp]; rfl, (hB.setCell (p := ⟨w.heap.size, 0, none⟩) (Nat.le_refl _) _).trans (belowK_b (w := w) (Nat.le_refl _) _ D _ _ (by simp at hD; omega) hK2 rfl rfl)⟩
    simp [results, Try.f23, go_sem, hc5]
  case stop =>
    rintro D pre W hD hpre ⟨x, rfl, hv, hB⟩ hK
    gi_wp2
    refine ⟨by simp, .inl ⟨_, _, rfl, run_takeDeferred hK, ?_⟩⟩
    have hc5 := cell_kept hv.cell (grownBy_putObj' _ D (.deferred none)) (fun r e => by cases e; exact ⟨_, hK, rfl⟩)
    obtain ⟨ys, hy⟩ := hpre
    refine ⟨.int .i64 (x : Int), ?_, by rw [← hy]; rfl, hB.trans (belowK_b (w := w) (Nat.le_refl _) W D _ _ (by simp at hD; omega) hK rfl rfl)⟩
    simp [results, Try.f23, go_sem, hc5]

end Go.Proofs.Ytlkplncfiohlcaa
