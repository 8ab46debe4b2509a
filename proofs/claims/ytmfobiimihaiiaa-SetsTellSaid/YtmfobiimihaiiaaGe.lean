/- Growing lists of truths: what a closure tells is more is joined to its place. -/
import Derived.Lib.SmallJoins
import Derived.Test.YtmfobiimihaiiaaGb
namespace Go.Proofs.Ytmfobiimihaiiaa
open Go Go.RowKit Go.Lib Go.Joins

/-- All but some blocks is as it was, and there may be more. -/
structure Far (S : Nat → Prop) (w w' : World) : Prop where
  os : w'.os = w.os
  tape : w'.tape = w.tape
  output : w'.output = w.output
  size : w.heap.size ≤ w'.heap.size
  block : ∀ k, k < w.heap.size → ¬ S k → w'.heap[k]? = w.heap[k]?

theorem Far.refl (S : Nat → Prop) (w : World) : Far S w w := ⟨rfl, rfl, rfl, Nat.le_refl _, fun _ _ _ => rfl⟩
theorem Far.trans {S : Nat → Prop} {a b c : World} (h : Far S a b) (k : Far S b c) : Far S a c :=
  ⟨k.os.trans h.os, k.tape.trans h.tape, k.output.trans h.output, Nat.le_trans h.size k.size, fun i hi hs => (k.block i (Nat.lt_of_lt_of_le hi h.size) hs).trans (h.block i hi hs)⟩
theorem Far.weak {S T : Nat → Prop} {a b : World} (h : Far S a b) (hst : ∀ k, S k → k < a.heap.size → T k) : Far T a b :=
  ⟨h.os, h.tape, h.output, h.size, fun i hi ht => h.block i hi fun hs => ht (hst i hs hi)⟩
theorem Far.ofBelow {S : Nat → Prop} {a b : World} (h : Below a.heap.size a b) : Far S a b := ⟨h.os, h.tape, h.output, h.size, fun i hi _ => h.block i hi⟩
theorem Far.toBelow {S : Nat → Prop} {a b : World} {B : Nat} (h : Far S a b) (hB : B ≤ a.heap.size) (hs : ∀ k, S k → B ≤ k) : Below B a b :=
  ⟨h.os, h.tape, h.output, h.size, fun i hi => h.block i (by omega) fun h' => by have := hs i h'; omega⟩
theorem Far.drewN {S : Nat → Prop} {a b : World} (h : Far S a b) (n : Nat) : Far S a (b.drewN n) := h.trans ⟨rfl, rfl, rfl, Nat.le_refl _, fun _ _ _ => rfl⟩
theorem Far.drew {S : Nat → Prop} {a b : World} (h : Far S a b) : Far S a b.drew := h.trans ⟨rfl, rfl, rfl, Nat.le_refl _, fun _ _ _ => rfl⟩
theorem Far.alloc {S : Nat → Prop} {a b : World} (h : Far S a b) (o : Obj) : Far S a (b.alloc o) := h.trans (Far.ofBelow ((Below.refl _ _).alloc (Nat.le_refl _) o))
theorem Far.set {S : Nat → Prop} {a b : World} (h : Far S a b) {p : Addr} (hp : S p.block) (v : Value) : Far S a (b.setCell p v) := by
  have hb := (Below.refl 0 b).setCell (p := p) (Nat.zero_le _) v
  exact h.trans ⟨hb.os, hb.tape, hb.output, hb.size, fun i _ hs => Below.heap_setCell b p v i fun e => hs (by rw [e]; exact hp)⟩
theorem Far.heap {S : Nat → Prop} {a b : World} (h : Far S a b) {k : Nat} {o : Obj} (ho : a.heap[k]? = some o) (hs : ¬ S k) : b.heap[k]? = some o :=
  (h.block k (Array.getElem?_eq_some_iff.1 ho).1 hs).trans ho
theorem Far.cell {S : Nat → Prop} {a b : World} (h : Far S a b) {p : Addr} {v : Value} (hv : a.cell? p = some v) (hs : ¬ S p.block) : b.cell? p = some v :=
  (World.cell?_of_block (w := a) (h.block p.block (World.block_lt_of_cell? a _ hv) hs)).trans hv

/-- What lies where a list grows: the list, the variable that holds it, how it is joined, and whether it has changed. -/
structure GSt (W : World) (lb Bl Bj Bc n : Nat) (L : List Bool) (c : Bool) : Prop where
  list : W.heap[lb]? = some (.cells (L.map Value.bool).toArray 4)
  var : W.heap[Bl]? = some (.cells #[.slice (some ⟨lb, 0, none⟩) n n] 33)
  join : W.heap[Bj]? = some (.cells #[.func (.func 50) #[] #[]] 75)
  chg : W.heap[Bc]? = some (.cells #[.bool c] 4)
  len : L.length = n
  ne : lb ≠ Bc

theorem either_any (a b : Bool) (w : World) : Calls Try.prog 50 #[.bool a, .bool b] w fun e w' => e = .returned (.bool (a || b)) ∧ w' = w := by
  cases a <;> cases b <;>
  · go_enter Try.func50, Try.ntmps50
    go_wp2
    go_ret
    exact ⟨rfl, rfl⟩

set_option maxRecDepth 100000 in
set_option maxHeartbeats 1000000 in
theorem more_any {W : World} {lb Bl Bj Bc n : Nat} {L : List Bool} {c : Bool} (h : GSt W lb Bl Bj Bc n L c) (i : Nat) (hi : i < n) (x : Bool) :
    Calls Try.prog 57 #[.int .i64 (i : Int), .bool x, .pointer (some ⟨Bj, 0, none⟩), .pointer (some ⟨Bl, 0, none⟩), .pointer (some ⟨Bc, 0, none⟩)] W fun e W' =>
      (∃ v, e = .returned v) ∧ GSt W' lb Bl Bj Bc n (L.set i (L.getD i false || x)) (c || (L.getD i false != (L.getD i false || x))) ∧ Far (fun k => k = lb ∨ k = Bc) W W' := by
  have hlen := h.len
  have c1 : W.cell? ⟨lb, i, none⟩ = some (.bool (L.getD i false)) := by
    rw [cell_of_block h.list]; simp [List.getD_eq_getElem?_getD, hlen, hi]
  have c2 := cell_of_block h.var 0
  have c3 := cell_of_block h.join 0
  have c4 := cell_of_block h.chg 0
  have f1 := unfrozen_of_block h.list i
  have f4 := unfrozen_of_block h.chg 0
  simp only [List.getElem?_toArray, List.getElem?_cons_zero] at c2 c3 c4
  have hne := h.ne
  have fs : ∀ m v, ((W.drewN m).setCell { block := lb, off := i } v).cell? { block := Bc, off := 0 } = some (.bool c) := fun m v =>
    (World.cell?_setCell_far _ _ _ _ hne).trans c4
  generalize hy : L.getD i false = y at *
  have i0 : (0 : Int) ≤ (i : Int) := by omega
  have i1 : (i : Int) < (n : Int) := by omega
  have H := hid h
  clear h
  by_cases hxy : y = false ∧ x = true
  · obtain ⟨rfl, rfl⟩ := hxy
    go_enter Try.func57, Try.ntmps57
    go_wp2_with fail
    go_quiet ((go_at_call 50; exact Calls.quiet_of_same (either_any _ _ _)))
    go_wp2
    go_end0
    have hst : GSt (((W.drewN nq).setCell { block := lb, off := i } (Value.bool true)).setCell { block := Bc, off := 0 } (Value.bool true)) lb Bl Bj Bc n (L.set i (false || true)) (c || false != (false || true)) := by
      obtain ⟨h1, h2, h3, h4, h5, h6⟩ := H.out
      have hl : ((W.drewN nq).setCell { block := lb, off := i } (Value.bool true)).heap[lb]? = some (.cells ((L.set i true).map Value.bool).toArray 4) := by
        have := block_setCell (w := W.drewN nq) (i := i) h1 (Value.bool true)
        rw [this]
        simp [List.map_set]
      have far : ∀ k, k ≠ lb → k ≠ Bc → (((W.drewN nq).setCell { block := lb, off := i } (Value.bool true)).setCell { block := Bc, off := 0 } (Value.bool true)).heap[k]? = W.heap[k]? := fun k e1 e2 =>
        (Below.heap_setCell _ _ _ _ e2).trans (Below.heap_setCell _ _ _ _ e1)
      have n1 : Bl ≠ lb := fun e => by rw [e, h1] at h2; simp at h2
      have n2 : Bl ≠ Bc := fun e => by rw [e, h4] at h2; simp at h2
      have n3 : Bj ≠ lb := fun e => by rw [e, h1] at h3; simp at h3
      have n4 : Bj ≠ Bc := fun e => by rw [e, h4] at h3; simp at h3
      refine ⟨?_, ?_, ?_, ?_, by simp [h5], h6⟩
      · exact (Below.heap_setCell _ _ _ _ h6).trans hl
      · exact (far _ n1 n2).trans h2
      · exact (far _ n3 n4).trans h3
      · have h4' : ((W.drewN nq).setCell { block := lb, off := i } (Value.bool true)).heap[Bc]? = some (.cells #[.bool c] 4) := (Below.heap_setCell _ _ _ _ (Ne.symm h6)).trans h4
        have := block_setCell (i := 0) h4' (Value.bool true)
        rw [this]
        simp
    exact ⟨⟨_, rfl⟩, hst, (((Far.refl _ _).drewN nq).set (.inl rfl) _).set (.inr rfl) _⟩
  · have hxx : (y || x) = y := by cases y <;> cases x <;> simp_all
    rw [hxx]
    have e2 : (y != y) = false := by simp
    have hset : L.set i y = L := by
      rw [← hy]
      refine List.ext_getElem (by simp) fun j h1 h2 => ?_
      rw [List.getElem_set]
      split
      · rename_i e; subst e; rw [List.getD_eq_getElem?_getD, List.getElem?_eq_getElem h2]; rfl
      · rfl
    rw [e2, hset, Bool.or_false]
    have HX := hid hxx
    clear hxx hxy hset
    have ke := hid fun w => either_any y x w
    rw [HX.out] at ke
    go_enter Try.func57, Try.ntmps57
    go_wp2_with fail
    go_quiet ((go_at_call 50; exact Calls.quiet_of_same (ke.out _)))
    go_wp2
    go_end0
    exact ⟨⟨_, rfl⟩, ⟨H.out.list, H.out.var, H.out.join, H.out.chg, H.out.len, H.out.ne⟩, (Far.refl _ _).drewN nq⟩

end Go.Proofs.Ytmfobiimihaiiaa
