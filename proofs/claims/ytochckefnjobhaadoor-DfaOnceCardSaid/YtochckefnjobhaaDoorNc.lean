/- nfa's machine: lay: nothing, bytes. -/
import Derived.Test.YtochckefnjobhaaDoorNb
namespace Go.Proofs.YtochckefnjobhaaDoor
open Go Go.RowKit Go.Lib
open X3 (RX Pl)
set_option linter.unusedVariables false
set_option linter.unusedSimpArgs false

/-- What lay comes to. -/
def LayP (T : Nat → Nat) (B m : Nat) (w : World) (pv : Value) (AS : List Value) (r : Nat × List Pl) (e : Ending) (w' : World) : Prop :=
  ∃ pv' AS', e = .returned (.int .i64 (r.1 : Nat)) ∧ MRep T B m w' pv' AS' r.2 ∧ LF w w' (Own m pv AS) (Own m pv' AS')

/-- The boxes of lay's parameters. -/
structure B3 (w w0 : World) (m b : Nat) (k x y z u : Int) (kv : Value) : Prop where
  bl : Below w.heap.size w w0
  sz : w0.heap.size = w.heap.size + 1 + 1 + 1
  h0 : w0.heap[w.heap.size]? = some (.cells #[.pointer (some ⟨m, 0, none⟩)] 39 (0, 0))
  h1 : w0.heap[w.heap.size + 1]? = some (.cells #[.int .i64 k, .int .u64 x, .int .u64 y, .int .u64 z, .int .u64 u, kv] 38 (0, 0))
  h2 : w0.heap[w.heap.size + 1 + 1]? = some (.cells #[.int .i64 (b : Int)] 3 (0, 0))
theorem boxes3 (m b : Nat) (k x y z u : Int) (kv : Value) (w : World) : ∃ w0, ((w.alloc (.cells #[.pointer (some ⟨m, 0, none⟩)] 39)).alloc (.cells #[.int .i64 k, .int .u64 x, .int .u64 y, .int .u64 z, .int .u64 u, kv] 38)).alloc (.cells #[.int .i64 (b : Int)] 3) = w0 ∧ B3 w w0 m b k x y z u kv := by
  refine ⟨_, rfl, ?_, by simp, ?_, ?_, ?_⟩
  · exact (((Below.refl _ _).alloc (Nat.le_refl _) _).alloc (by simp) _).alloc (by simp; omega) _
  · exact (Below.heap_alloc _ _ _ (by simp; omega)).trans ((Below.heap_alloc _ _ _ (by simp)).trans (new_block _ _))
  · have := new_block (w.alloc (.cells #[.pointer (some ⟨m, 0, none⟩)] 39)) (.cells #[.int .i64 k, .int .u64 x, .int .u64 y, .int .u64 z, .int .u64 u, kv] 38)
    rw [World.size_alloc] at this
    exact (Below.heap_alloc _ _ _ (by simp)).trans this
  · have := new_block ((w.alloc (.cells #[.pointer (some ⟨m, 0, none⟩)] 39)).alloc (.cells #[.int .i64 k, .int .u64 x, .int .u64 y, .int .u64 z, .int .u64 u, kv] 38)) (.cells #[.int .i64 (b : Int)] 3)
    rw [World.size_alloc, World.size_alloc] at this
    exact this
theorem cell1 {w : World} {g : Nat} {v : Value} {t : TypeId} (h : w.heap[g]? = some (.cells #[v] t (0, 0))) : w.cell? ⟨g, 0, none⟩ = some v := by rw [Lib.cell_of_heap h]; rfl

theorem lay_empty (T : Nat → Nat) (B m b : Nat) (w : World) (pv : Value) (AS : List Value) (P : List Pl) (hM : MRep T B m w pv AS P) :
    Calls Tryd.prog 33 #[.pointer (some ⟨m, 0, none⟩), nodeV 0 0 0 0 0 noKids, .int .i64 (b : Int)] w (LayP T B m w pv AS (b, P)) := by
  obtain ⟨w0, e0, hB⟩ := boxes3 m b 0 0 0 0 0 noKids w
  have HM := hid hM
  clear hM
  obtain ⟨p0, p1, p2, p3, p4, p5⟩ := cells6 hB.h1
  have q := cell1 hB.h2
  have HB := hid hB.bl
  have hsz := hB.sz
  clear hB
  go_enter Tryd.func33, Tryd.ntmps33
  go_wp2_with fail
  go_ret
  exact ⟨pv, AS, rfl, HM.out.below HB.out, LF.ofBelow HB.out⟩

set_option maxRecDepth 100000 in
set_option maxHeartbeats 2000000 in
theorem lay_bytes (T : Nat → Nat) (B m b : Nat) (w : World) (pv : Value) (AS : List Value) (P : List Pl) (x y z u : Nat) (hM : MRep T B m w pv AS P) (hP : P.length ≤ 200000000000) (hBw : B ≤ w.heap.size) (hT : T P.length = 0) :
    Calls Tryd.prog 33 #[.pointer (some ⟨m, 0, none⟩), nodeV 1 x y z u noKids, .int .i64 (b : Int)] w (LayP T B m w pv AS (P.length, P ++ [⟨.bytes x y z u, b, []⟩])) := by
  obtain ⟨w0, e0, hB⟩ := boxes3 m b 1 x y z u noKids w
  have hs := hB.sz
  have KA := hid (add_any T B m w0 pv AS P (.bytes x y z u) b 0 hT.symm (hM.below hB.bl) hP (by omega))
  obtain ⟨p0, p1, p2, p3, p4, p5⟩ := cells6 hB.h1
  have q := cell1 hB.h2
  have q0 := cell1 hB.h0
  have HB := hid hB.bl
  have HM := hid hM
  clear hM hB
  go_enter Tryd.func33, Tryd.ntmps33
  go_wp2_with fail
  refine KA.out.mono ?_
  rintro e w1 ⟨pv', rfl, hM', hl⟩
  have HM' := hid hM'
  have HL := hid hl
  clear hM' hl
  go_wp2_with fail
  go_ret
  exact ⟨pv', _, rfl, HM'.out, (LF.ofBelow HB.out).trans HL.out⟩
end Go.Proofs.YtochckefnjobhaaDoor
