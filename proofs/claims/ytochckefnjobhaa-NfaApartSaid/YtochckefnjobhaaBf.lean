/- bits.List, bits.Count, bits.First: what they hand back of any set. -/
import Derived.Maps.AppendAt
import Derived.Deep.DeepMust
import Derived.Test.YtochckefnjobhaaBe
import Derived.Test.YtochckefnjobhaaQc
namespace Go.Proofs.Ytochckefnjobhaa
open Go Go.RowKit Go.Shelf Go.Lib
attribute [local go_sem] Oper.semAt_some


theorem ownsRow_base {W : World} {b b' : Nat} {e : TypeId} {size : Nat} {v : Value} {k : Nat} {xs : List Value} (h : W.ownsRow b e size v k xs) (hb : b' ≤ b) : W.ownsRow b' e size v k xs :=
  ⟨h.1, h.2.imp id fun ⟨g, cap, cur, e1, e2, e3⟩ => ⟨g, cap, cur, e1, by omega, e3⟩⟩
theorem ownsRow_off {W : World} {b B : Nat} {e : TypeId} {size : Nat} {v : Value} {k : Nat} {xs : List Value} (h : W.ownsRow b e size v k xs) (hb : B < b) : v.ownBlock ≠ some B := by
  rcases h.2 with ⟨rfl, _⟩ | ⟨g, cap, cur, rfl, h2, _⟩
  · simp [Value.ownBlock]
  · simp [Value.ownBlock]; omega

/-- The numbers as values. -/
def nums (l : List Nat) : List Value := l.map fun k : Nat => Value.int .i64 (k : Int)

set_option maxRecDepth 100000 in
set_option maxHeartbeats 2000000 in
theorem List_in (F : Fence) (n : Nat) (h19 : F.fn 20) (h45 : F.fn 32) (h51 : F.fn 40) (hro : F.round = none) (hn : 3 ≤ n) (s : Nat) (hs : s < 18446744073709551616) (w : World) :
    CallsIn F n Try.prog 20 #[.int .u64 (s : Int)] w fun e W' => ∃ v, e = .returned v ∧ W'.ownsRow w.heap.size 3 1 v (upto s 64).length (nums (upto s 64)) ∧ (v = .slice none 0 0 ↔ upto s 64 = []) ∧ Below w.heap.size w W' := by
  have h1 : 1 ≤ n := by omega
  obtain ⟨i0, hi, hz0, hz1, hz2⟩ := info_parts info3
  refine callsIn_of_wp_marks Try.func20 rfl h19 ?_ hro
  simp only [Try.ntmps20, List.size_toArray, List.length_cons, List.length_nil, Nat.reduceAdd, Nat.reduceSub, Array.replicate_succ, Array.replicate_zero, List.push_toArray, List.append_toArray, List.nil_append, List.cons_append]
  gi_wp2_with (gi_at_call 32; refine (each_in F (n - 1) h45 hro _ _).mono ?_; rintro e w' ⟨rfl, rfl⟩)
  have bO := Boxed.new w 39 (.slice none 0 0)
  have bN := Boxed.new (w.alloc (.cells #[.slice none 0 0] 39)) 43 (.int .u64 (s : Int))
  rw [World.size_alloc] at bN
  have hB0 : Below w.heap.size w ((w.alloc (.cells #[.slice none 0 0] 39)).alloc (.cells #[.int .u64 (s : Int)] 43)) := ((Below.refl _ w).alloc (Nat.le_refl _) _).alloc (by simp) _
  refine wpIn_rangeFunc_cell hro h1 (gf := 40) (lb := #[.pointer (some ⟨w.heap.size + 1, 0, none⟩)]) rfl h51 (enters_of Try.func40 (by kernel_rfl) rfl)
    (each1_seq F (n - 1) h51 hro (by omega) (w.heap.size + 1) s hs _ bN) (by simp) (fun _ => rfl)
    (fun pre W => (∃ v, Boxed W w.heap.size 39 v ∧ W.ownsRow (w.heap.size + 2) 3 1 v pre.length (nums pre) ∧ (v = .slice none 0 0 ↔ pre = [])) ∧ Below w.heap.size w W ∧ w.heap.size + 2 ≤ W.heap.size)
    (fun _ _ _ => False)
    (OwnFrom.and (Own.from (holdsRow_own (w.heap.size + 2) w.heap.size 39 3 1 (fun pre => pre.length) (fun pre => nums pre) (fun pre v => v = .slice none 0 0 ↔ pre = [])) _) (OwnFrom.and (ownFrom_below (Nat.le_refl _) (by simp; omega)) (fun s A B row hs hg hr => Nat.le_trans hs hg.size)))
    (fun s A B ⟨⟨v, hv, hr, hnil⟩, hB, hz⟩ hg => ⟨⟨v, hv.kept hg (by simp), hr.kept hg (.inr (ownsRow_off hr (by omega))), hnil⟩, hB.grown hg hB.size (fun k e => by cases e; omega), Nat.le_trans hz hg.size⟩)
    (fun _ _ _ _ _ hs _ _ => hs) ⟨⟨_, bO.alloc _, World.ownsRow_nil _ _ _ _, by simp⟩, hB0, by simp⟩
    (fun x => { tmps := #[.int .u64 (s : Int), undef, .slice none 0 0, .pointer (some ⟨w.heap.size, 0, none⟩), .int .i64 (x : Int), .int .u64 (s : Int), .func (.func 40) #[] #[.pointer (some ⟨w.heap.size + 1, 0, none⟩)], .int .i64 (x : Int), undef, undef, undef, undef, undef], defers := [] }) ?assign ?body ?done ?stop
  case assign =>
    intro l x W K hK
    gi_wp2
    exact hK
  case body =>
    rintro l pre x W ⟨⟨v, hv, hrow, hnil⟩, hB, hsz⟩ hlt
    have hc := hv.cell
    gi_wp2_with (gi_at_builtin; go_must (refine wpListIn_append_own _ rfl _ _ 39 rfl (w.heap.size + 2) 3 i0 (.int .i64 0) 1 8 Try.underlying39 hi hz0 hz1 hz2 rfl (by decide) _ _ _ rfl (hrow.alloc _) ⟨W.heap.size, 0, none⟩ 1 1 [.int .i64 (x : Int)] rfl rfl (cell_one_new _ _ _) (by simp [Value.oneCell']) (by unfold maxLen; omega) (by omega) (by have := hv.lt; simp; omega) ?_); intro v' w1 hown' hgrow _; obtain ⟨g', cap', rfl⟩ := ownsRow_succ hown'; obtain ⟨hv1, hv2, hr2, hk2, hb2⟩ := hv.appended (by decide) (ownsRow_base hrow (by omega : w.heap.size ≤ _)) hB.size (Nat.le_refl _) (ownsRow_base hown' (by omega)) hgrow; have hc1 := hv1.cell; have hf1 := hv1.frozen)
    have hoff := ownsRow_off hrow (B := w.heap.size + 1) (by omega)
    have hbs : (w1.setCell ⟨w.heap.size, 0, none⟩ (.slice (some ⟨g', 0, none⟩) (pre.length + 1) cap')).heap[w.heap.size + 1]? = W.heap[w.heap.size + 1]? :=
      (Below.heap_setCell _ _ _ _ (by simp)).trans ((hgrow.block _ (by simp; omega) (fun e => hoff e.symm)).trans (Below.heap_alloc _ _ _ (by omega)))
    exact ⟨hk2.from _, hbs, ⟨_, hv2, by simpa [nums] using ownsRow_setCell_below hown' (a := ⟨w.heap.size, 0, none⟩) (by simp) _, by simp⟩, hB.trans hb2, by have := hk2.size; omega⟩
  case done =>
    rintro D ys W hD rfl ⟨⟨v, hv, hrow, hnil⟩, hB, _⟩ hK
    have hc := hv.cell
    gi_wp2
    refine ⟨by simp, .inl ⟨_, _, rfl, run_takeDeferred hK, ?_⟩⟩
    exact ⟨_, results_tmp rfl _ _ _, v, rfl, ownsRow_base (ownsRow_putObj hrow _ hK rfl) (by omega), hnil, hB.trans (belowK_b (w := w) (Nat.le_refl _) W D _ _ (by simp at hD; omega) hK rfl rfl)⟩
  case stop =>
    rintro D pre W _ _ h _
    exact h.elim

end Go.Proofs.Ytochckefnjobhaa

/- bits.List, as any call meets it. -/
namespace Go.Proofs.Ytochckefnjobhaa
open Go Go.RowKit Go.Shelf Go.Lib
theorem list_any (s : Nat) (hs : s < 18446744073709551616) (w : World) : Calls Try.prog 20 #[.int .u64 (s : Int)] w fun e W' => ∃ v, e = .returned v ∧ W'.ownsRow w.heap.size 3 1 v (upto s 64).length (ints (upto s 64)) ∧ Below w.heap.size w W' :=
  callsIn_wide.1 ((List_in Fence.wide 3 trivial trivial trivial rfl (Nat.le_refl _) s hs w).mono fun _ _ ⟨v, h1, h2, _, h4⟩ => ⟨v, h1, h2, h4⟩)
end Go.Proofs.Ytochckefnjobhaa
