/- The document's own comparison of two rows of numbers: two that read alike are the same. -/
import Derived.Deep.QuietTactic
import Derived.BigQuiet
import Derived.Test.YtlkplncfiohlcaaBi
namespace Go.Proofs.Ytlkplncfiohlcaa
open Go Go.RowKit Go.Shelf Go.Lib

/-- A slice of numbers reads as a list. -/
def Reads (W : World) (v : Value) (l : List Int) : Prop :=
  ∃ a cap, v = .slice a l.length cap ∧ (l ≠ [] → ∃ b off, a = some ⟨b, off, none⟩ ∧ ∀ i, i < l.length → W.cell? ⟨b, off + i, none⟩ = some (.int .i64 (l.getD i 0)))

theorem Row_some (b1 o1 c1 b2 o2 c2 : Nat) (l : List Int) (w : World) (hl : l.length ≤ 9223372036854775807)
    (h1 : ∀ i, i < l.length → w.cell? ⟨b1, o1 + i, none⟩ = some (.int .i64 (l.getD i 0))) (h2 : ∀ i, i < l.length → w.cell? ⟨b2, o2 + i, none⟩ = some (.int .i64 (l.getD i 0))) :
    Calls Try.prog 18 #[.slice (some ⟨b1, o1, none⟩) l.length c1, .slice (some ⟨b2, o2, none⟩) l.length c2] w fun e w' => e = .returned (.bool true) ∧ ∃ n, w' = w.drewN n := by
  have H1 := hid h1
  have H2 := hid h2
  clear h1 h2
  go_enter Try.func18, Try.ntmps18
  go_wp2
  go_loopw [5] (fun i wr => ∃ k n : Nat, k ≤ l.length ∧ i = .int .i64 (k : Int) ∧ wr = w.drewN n) (fun i _ => l.length - (intOf i).toNat)
  case atStart => exact ⟨0, 0, Nat.zero_le _, rfl, rfl⟩
  case round =>
    obtain ⟨k, n, hk, rfl, rfl⟩ := hrel
    by_cases hlt : k < l.length
    · have g1 := H1.out k hlt
      have g2 := H2.out k hlt
      have hi : (0 : Int) ≤ (k : Int) := by omega
      have hi2 : (k : Int) < (l.length : Int) := by omega
      go_wp2_with fail
      go_quiet (fail)
      go_wp2
      exact ⟨⟨k + 1, n + nq, by omega, by go_num, rfl⟩, by simp [intOf]; omega⟩
    · go_wp2
      go_ret
      exact ⟨rfl, n, rfl⟩

theorem Row_nil (a1 a2 : Option Addr) (c1 c2 : Nat) (w : World) : Calls Try.prog 18 #[.slice a1 0 c1, .slice a2 0 c2] w fun e w' => e = .returned (.bool true) ∧ ∃ n, w' = w.drewN n := by
  go_enter Try.func18, Try.ntmps18
  go_wp2
  go_loop [5] (fun i => i = .int .i64 0) (fun _ => 0)
  case atStart => rfl
  case round =>
    obtain rfl := hrel
    go_wp2
    go_ret
    exact ⟨rfl, 0, rfl⟩

theorem Row_reads {v1 v2 : Value} {l : List Int} {w : World} (hl : l.length ≤ 9223372036854775807) (h1 : Reads w v1 l) (h2 : Reads w v2 l) :
    Calls Try.prog 18 #[v1, v2] w fun e w' => e = .returned (.bool true) ∧ ∃ n, w' = w.drewN n := by
  obtain ⟨a1, c1, rfl, h1⟩ := h1
  obtain ⟨a2, c2, rfl, h2⟩ := h2
  by_cases hn : l = []
  · subst hn
    exact Row_nil a1 a2 c1 c2 w
  · obtain ⟨b1, o1, rfl, hc1⟩ := h1 hn
    obtain ⟨b2, o2, rfl, hc2⟩ := h2 hn
    exact Row_some b1 o1 c1 b2 o2 c2 l w hl hc1 hc2

/-- The numbers of a list as they are read. -/
def ints (l : List Nat) : List Int := l.map fun k : Nat => (k : Int)

theorem Listed.reads {base : Nat} {l : List Nat} {W : World} {v : Value} (h : Listed base l W v) : Reads W v (ints l) := by
  obtain ⟨ho, hn⟩ := h
  rcases ho.2 with ⟨rfl, h0⟩ | ⟨g, cap, cur, rfl, hb, hg, h1, h2, h3, h4⟩
  · have : l = [] := List.eq_nil_of_length_eq_zero h0
    subst this
    exact ⟨none, 0, rfl, fun h => absurd rfl h⟩
  · refine ⟨some ⟨g, 0, none⟩, cap, by simp [ints], fun _ => ⟨g, 0, rfl, fun i hi => ?_⟩⟩
    have hi' : i < l.length := by simpa [ints] using hi
    have := ho.cellAt i (by simpa using hi')
    rw [Nat.zero_add, this]
    simp [nums, ints, hi']
theorem Listed.below {base : Nat} {l : List Nat} {W W' : World} {v : Value} (h : Listed base l W v) (hb : Below W.heap.size W W') : Listed base l W' v := by
  refine ⟨⟨h.1.1, h.1.2.imp id fun ⟨g, cap, cur, e1, e2, e3, e4⟩ => ⟨g, cap, cur, e1, e2, ?_, e4⟩⟩, h.2⟩
  exact (hb.block g (Array.getElem?_eq_some_iff.1 e3).1).trans e3
theorem Reads.below {l : List Int} {W W' : World} {v : Value} (h : Reads W v l) (hb : Below W.heap.size W W') : Reads W' v l := by
  obtain ⟨a, cap, rfl, h⟩ := h
  refine ⟨a, cap, rfl, fun hn => ?_⟩
  obtain ⟨b, off, rfl, hc⟩ := h hn
  refine ⟨b, off, rfl, fun i hi => ?_⟩
  have hci := hc i hi
  have hlt : b < W.heap.size := by
    apply Classical.byContradiction
    intro hge
    have : W.heap[b]? = none := by simp; omega
    simp [World.cell?, this] at hci
  exact (hb.cell (p := ⟨b, off + i, none⟩) hlt).trans hci

end Go.Proofs.Ytlkplncfiohlcaa
