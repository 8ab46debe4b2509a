/- Lists of numbers, for the document's own answers on sets. -/
import Derived.OwnWalk
import Derived.RangeFuncBox
import Derived.Laws.AppendOwnNone
import Derived.Test.YtmfobiimihaiiaaHi
import Derived.Test.YtmfobiimihaiiaaGi
namespace Go.Proofs.Ytmfobiimihaiiaa
open Go Go.RowKit Go.Lib

theorem info3 : (Try.prog.info? 3).map (fun i => (i.zero, i.size, i.bytes)) = some (some (.int .i64 0), 1, 8) := by kernel_rfl
def nums (l : List Nat) : List Value := l.map fun k : Nat => Value.int .i64 (k : Int)
/-- A list of numbers, handed back in new memory. -/
def Listed (base : Nat) (l : List Nat) (W : World) (v : Value) : Prop := W.ownsRow base 3 1 v l.length (nums l) ∧ (v = .slice none 0 0 ↔ l = [])
theorem has_iff (a : Nat) (n : Int) : hasN a n = true ↔ (0 ≤ n ∧ n < 64 ∧ a.testBit n.toNat = true) := by
  unfold hasN
  rw [decide_eq_true_eq, and_bitN_ne]

/-- A slice of numbers reads as a list. -/
def Reads (W : World) (v : Value) (l : List Int) : Prop :=
  ∃ a cap, v = .slice a l.length cap ∧ (l ≠ [] → ∃ b off, a = some ⟨b, off, none⟩ ∧ ∀ i, i < l.length → W.cell? ⟨b, off + i, none⟩ = some (.int .i64 (l.getD i 0)))

/-- The numbers of a list as they are read. -/
def ints (l : List Nat) : List Int := l.map fun k : Nat => (k : Int)

theorem Listed.reads {base : Nat} {l : List Nat} {W : World} {v : Value} (h : Listed base l W v) : Reads W v (ints l) := by
  obtain ⟨ho, hn⟩ := h
  rcases ho.2 with ⟨rfl, h0⟩ | ⟨g, cap, cur, rfl, hb, hg, h1, h2, h3, h4⟩
  · have : l = [] := List.eq_nil_of_length_eq_zero h0
    subst this
    exact ⟨none, 0, rfl, fun h => absurd rfl h⟩
  · refine ⟨some ⟨g, 0, none⟩, cap, by simp [ints], fun _ => ⟨g, 0, rfl, fun i hi => ?_⟩⟩
    have hi' : i < l.length := by simpa [ints] using hi
    have := ho.cellAt i (by simpa using hi')
    rw [Nat.zero_add, this]
    simp [nums, ints, hi']
theorem Listed.below {base : Nat} {l : List Nat} {W W' : World} {v : Value} (h : Listed base l W v) (hb : Below W.heap.size W W') : Listed base l W' v := by
  refine ⟨⟨h.1.1, h.1.2.imp id fun ⟨g, cap, cur, e1, e2, e3, e4⟩ => ⟨g, cap, cur, e1, e2, ?_, e4⟩⟩, h.2⟩
  exact (hb.block g (Array.getElem?_eq_some_iff.1 e3).1).trans e3
theorem Reads.below {l : List Int} {W W' : World} {v : Value} (h : Reads W v l) (hb : Below W.heap.size W W') : Reads W' v l := by
  obtain ⟨a, cap, rfl, h⟩ := h
  refine ⟨a, cap, rfl, fun hn => ?_⟩
  obtain ⟨b, off, rfl, hc⟩ := h hn
  refine ⟨b, off, rfl, fun i hi => ?_⟩
  have hci := hc i hi
  have hlt : b < W.heap.size := by
    apply Classical.byContradiction
    intro hge
    have : W.heap[b]? = none := by simp; omega
    simp [World.cell?, this] at hci
  exact (hb.cell (p := ⟨b, off + i, none⟩) hlt).trans hci

end Go.Proofs.Ytmfobiimihaiiaa
