/- A row of items that grows, held by a variable; rows that are made. -/
import Derived.Test.YtjpbhbfklkipkaaDoorSh
import Derived.Test.YtjpbhbfklkipkaaDoorSi
namespace Go.Proofs.YtjpbhbfklkipkaaDoor
open Go Go.RowKit Go.Lib
open X14 (It)
set_option linter.unusedVariables false
set_option linter.unusedSimpArgs false
theorem info4 : (Tryd.prog.info? 4).map (fun i => (i.zero, i.size, i.bytes)) = some (some (.bool false), 1, 1) := by kernel_rfl
theorem made_bools (n : Nat) (hn : n ≤ 1000000) (w : World) : (Instr.makeSlice 66 (.int .i64 (n : Int)) (.int .i64 (n : Int))).run Tryd.prog w = .ok (.slice (some ⟨w.heap.size, 0, none⟩) n n) (w.alloc (.cells (Array.replicate n (.bool false)) 4)) := by
  obtain ⟨i0, hi, hz0, hz1, hz2⟩ := info_parts info4
  have := run_makeSlice (P := Tryd.prog) (w := w) 66 4 i0 (.bool false) Tryd.underlying66 hi hz0 .i64 .i64 (n : Int) (n : Int) (by omega) (by omega) (by rw [hz1]; omega) (by rw [hz2]; omega) (by omega)
  rw [this, hz1]
  have e : madeCells (Value.bool false).cells ((n : Int).toNat * 1) = Array.replicate n (.bool false) := by
    rw [Int.toNat_natCast, Nat.mul_one]
    refine Array.ext (by simp [madeCells]) fun i h1 h2 => ?_
    simp [madeCells, Value.cells, Nat.mod_one]
  rw [e, Int.toNat_natCast]
theorem made_items (n : Nat) (hn : n ≤ 1000000) (w : World) : (Instr.makeSlice 28 (.int .i64 0) (.int .i64 (n : Int))).run Tryd.prog w = .ok (.slice (some ⟨w.heap.size, 0, none⟩) 0 n) (w.alloc (.cells (Array.replicate (n * 2) (.int .i64 0)) 37)) := by
  obtain ⟨i0, hi, hz0, hz1, hz2⟩ := info_parts info37
  have := run_makeSlice (P := Tryd.prog) (w := w) 28 37 i0 (.agg #[.int .i64 0, .int .i64 0]) Tryd.underlying28 hi hz0 .i64 .i64 (0 : Int) (n : Int) (by omega) (by omega) (by rw [hz1]; omega) (by rw [hz2]; omega) (by omega)
  rw [this, hz1]
  have e : madeCells (Value.agg #[.int .i64 0, .int .i64 0]).cells ((n : Int).toNat * 2) = Array.replicate (n * 2) (.int .i64 0) := by
    rw [Int.toNat_natCast]
    have e2 : (Value.agg #[.int .i64 0, .int .i64 0]).cells = #[.int .i64 0, .int .i64 0] := rfl
    rw [e2]
    refine Array.ext (by simp [madeCells]) fun i h1 h2 => ?_
    simp [madeCells]
    rcases Nat.mod_two_eq_zero_or_one i with hm | hm <;> simp [hm]
  rw [e, Int.toNat_natCast]
  rfl
/-- Items that are read. -/
def ItemsAt (w : World) (v : Value) (l : List It) : Prop := RowAt v l.length (fun i b off => w.cell? ⟨b, off + i * 2, none⟩ = some (.int .i64 (l.getD i (0, 0)).1) ∧ w.cell? ⟨b, off + i * 2 + 1, none⟩ = some (.int .i64 (l.getD i (0, 0)).2))
theorem ItemsAt.below {w w' : World} {v : Value} {l : List It} (h : ItemsAt w v l) (hb : Below w.heap.size w w') : ItemsAt w' v l := RowAt.mono h fun _ _ _ ⟨h1, h2⟩ => ⟨cell_below hb h1, cell_below hb h2⟩
/-- A row that a variable holds. -/
structure Out (w0 w : World) (bo : Nat) (O : List It) (g c : Nat) : Prop where
  box : w.heap[bo]? = some (.cells #[.slice (some ⟨g, 0, none⟩) O.length c] 28 (0, 0))
  own : w.ownsRow w0.heap.size 37 2 (.slice (some ⟨g, 0, none⟩) O.length c) O.length (icells O)
  ne : g ≠ bo
  bel : Below w0.heap.size w0 w
  ge : w0.heap.size ≤ bo
theorem Out.lt {w0 w : World} {bo g c : Nat} {O : List It} (h : Out w0 w bo O g c) : w0.heap.size ≤ g ∧ g < w.heap.size ∧ bo < w.heap.size := ⟨(owns_lt h.own g rfl).1, (owns_lt h.own g rfl).2, (Array.getElem?_eq_some_iff.1 h.box).1⟩
theorem Out.keep {w0 w w' : World} {bo g c : Nat} {O : List It} (h : Out w0 w bo O g c) (h1 : w'.heap[bo]? = w.heap[bo]?) (h2 : w'.heap[g]? = w.heap[g]?) (hb : Below w0.heap.size w0 w') : Out w0 w' bo O g c :=
  ⟨h1.trans h.box, owns_kept h.own fun q hq => by injection hq with hq; subst hq; exact h2, h.ne, hb, h.ge⟩
theorem Out.below {w0 w w' : World} {bo g c : Nat} {O : List It} (h : Out w0 w bo O g c) (hb : Below w.heap.size w w') : Out w0 w' bo O g c :=
  h.keep (hb.block _ h.lt.2.2) (hb.block _ h.lt.2.1) (h.bel.trans (hb.mono (h.bel.size)))
theorem Out.cap {w0 w : World} {bo g c : Nat} {O : List It} (h : Out w0 w bo O g c) : O.length ≤ c ∧ c ≤ 9223372036854775807 := by
  rcases h.own.2 with ⟨e, _⟩ | ⟨g', cap, cur, e, _, _, h2, h3, _⟩
  · cases e
  · injection e with _ _ e
    subst e
    exact ⟨h2, h3⟩
/-- One item more, and the variable holds the longer row. -/
theorem Out.push {w0 w w2 : World} {bo g c : Nat} {O : List It} {x : It} {v' : Value} (h : Out w0 w bo O g c) (hown : w2.ownsRow w0.heap.size 37 2 v' (O.length + 1) (icells O ++ [.int .i64 x.1, .int .i64 x.2])) (hg : w.grownBy w2 (some g)) (hat : v'.ownBlock = some g ∨ v'.ownBlock = some w.heap.size) :
    ∃ g' c', v' = .slice (some ⟨g', 0, none⟩) (O.length + 1) c' ∧ w2.heap[bo]? = some (.cells #[.slice (some ⟨g, 0, none⟩) O.length c] 28 (0, 0)) ∧ Out w0 (w2.setCell ⟨bo, 0, none⟩ v') bo (O ++ [x]) g' c' ∧ (g' = g ∨ g' = w.heap.size) ∧
      ∀ (m : Nat) (T : List Nat), m ≤ w.heap.size → bo ∈ T → (g ∈ T ∨ m ≤ g) → KeptT m T w (w2.setCell ⟨bo, 0, none⟩ v') := by
  obtain ⟨o, c', rfl⟩ := own_shape hown
  obtain ⟨g', rfl⟩ : ∃ g', o = some ⟨g', 0, none⟩ := by
    rcases hown.2 with ⟨e, h0⟩ | ⟨g', _, _, e, _⟩
    · omega
    · injection e with e; exact ⟨g', e⟩
  have hgg : g' = g ∨ g' = w.heap.size := hat.imp (fun e => Option.some.inj e) (fun e => Option.some.inj e)
  have hlt := h.lt
  have hbo : w2.heap[bo]? = some (.cells #[.slice (some ⟨g, 0, none⟩) O.length c] 28 (0, 0)) := (hg.block bo hlt.2.2 (fun e => h.ne (Option.some.inj e).symm)).trans h.box
  have hne : g' ≠ bo := by
    rcases hgg with e | e
    · rw [e]; exact h.ne
    · rw [e]; omega
  have hb2 : Below w0.heap.size w0 w2 := h.bel.grown hg h.bel.size (fun k e => by injection e with e; subst e; exact hlt.1)
  refine ⟨g', c', rfl, hbo, ⟨?_, ?_, hne, hb2.setCell h.ge _, h.ge⟩, hgg, fun m T hm hbT hgT => ⟨hg.os, hg.tape, hg.output, by rw [World.size_setCell]; exact hg.size, fun q hq hqT => ?_⟩⟩
  · rw [heap_setCell_same w2 bo 0 _ 28 _ hbo, List.length_append]
    rfl
  · rw [List.length_append, icells_snoc]
    exact owns_kept hown fun q hq => by
      injection hq with hq
      subst hq
      exact Below.heap_setCell _ _ _ _ hne
  · have h1 : q ≠ bo := fun e => hqT (e ▸ hbT)
    have h2 : q ≠ g := fun e => by
      rcases hgT with h3 | h3
      · exact hqT (e ▸ h3)
      · omega
    exact (Below.heap_setCell _ _ _ _ h1).trans (hg.block q (Nat.lt_of_lt_of_le hq hm) (fun e => h2 (Option.some.inj e)))
/-- The mark of a loop over a function among the deferred calls. -/
abbrev markD (D : Nat) : Deferred := { target := .collected D, args := #[] }
theorem leaves_marks {F : Fence} {n : Nat} {fn : Func} {tmps : Array Value} {R : Ending → World → Prop} : ∀ (ds : List Nat) (w : World), ds.Nodup → (∀ D ∈ ds, w.heap[D]? = some (.deferred (some []))) →
    (∀ w', (∀ g, g ∉ ds → w'.heap[g]? = w.heap[g]?) → w'.heap.size = w.heap.size → w'.os = w.os → w'.tape = w.tape → w'.output = w.output → LeavesIn F n Tryd.prog fn tmps R [] .returning w') →
    LeavesInM F n Tryd.prog fn tmps R (ds.map markD) .returning w
  | [], w, _, _, h => h w (fun _ _ => rfl) rfl rfl rfl rfl
  | D :: ds, w, hn, hd, h => by
    obtain ⟨n1, n2⟩ := List.nodup_cons.1 hn
    refine ⟨by simp, .inl ⟨D, _, rfl, run_takeDeferred (hd D (by simp)), ?_⟩⟩
    refine leaves_marks ds _ n2 (fun E hE => ?_) fun w' a1 a2 a3 a4 a5 => h w' (fun g hg => ?_) ?_ a3 a4 a5
    · have hne : E ≠ D := fun e => n1 (e ▸ hE)
      rw [World.putObj_heap_other (by omega)]
      exact hd E (by simp [hE])
    · have hne : g ≠ D := fun e => hg (by simp [e])
      rw [a1 g (fun hm => hg (by simp [hm])), World.putObj_heap_other (by omega)]
    · rw [a2]; simp
end Go.Proofs.YtjpbhbfklkipkaaDoor
