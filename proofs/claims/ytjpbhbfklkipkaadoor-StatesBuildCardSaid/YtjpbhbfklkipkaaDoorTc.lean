/- Items that are handed in; the table of powers of ten, as a row lists it. -/
import Derived.LaidSub
import Derived.MakeChecks
import Derived.Test.YtjpbhbfklkipkaaDoorTb
import Derived.Test.YtjpbhbfklkipkaaDoorPg
namespace Go.Proofs.YtjpbhbfklkipkaaDoor
open Go Go.RowKit Go.Lib Go.WideShapes Go.ChangeShapes Go.Deep
open X14 (It)
set_option linter.unusedVariables false
set_option maxRecDepth 100000 in
theorem tab_of_laid {W : World} {L : List (String × DataW Unit)} (hL : laidMetH Tryd.prog L W) (hf : (L.filter fun x => x.1 == "internal/strconv.uint64pow10") = [("internal/strconv.uint64pow10", Lib.tabData .u64 Lib.pow10Tab)]) : Tab W.heap.size W := by
  have h := hL.filter fun x => x.1 == "internal/strconv.uint64pow10"
  rw [hf, MakeChecks.laidMetH_plain _ _ _ (by kernel_rfl)] at h
  exact Lib.tabBelow_of_tabIs (Lib.tabIs_of_head (g := 0) (t := 131) (e := 106) (n := 20) (by kernel_rfl) (by kernel_rfl) Tryd.underlying131 Tryd.underlying106 (by kernel_rfl) (by kernel_rfl) h)
section
variable {H : Type} {enc : TypeId × Value → H} {w : World} {base : Nat} {spare : Nat → Bool} {held : Bool}
set_option maxRecDepth 100000 in
set_option maxHeartbeats 1000000 in
theorem open_items {r : Reach} {b0 : Nat} {v : Value} {d : DataW H} {ps : List MemPlace} (hval : Value.okWide Tryd.prog w r b0 28 v) (h : DataW.Trod enc Tryd.prog w base spare held 28 v d ps) :
    ∃ l, ItemsAt w v l ∧ ∀ x ∈ l, inR x := by
  obtain ⟨A, ln, cp, rfl⟩ := okWide_slice Tryd.underlying28 hval
  obtain ⟨fuel, hf⟩ := h
  obtain ⟨a, len, cap, V, hv, hl, hm, hat, hel, _⟩ := open_block Tryd.underlying28 (by kernel_rfl : Tryd.prog.cellsOf 37 = 2) (by omega) hf
  injection hv with h1 h2 h3
  subst h1 h2 h3
  obtain ⟨f, hf2⟩ := choose_lt (α := Int × Int) (n := ln) (p := fun i z => V i 0 = .int .i64 z.1 ∧ V i 1 = .int .i64 z.2 ∧ inR z) (fun i hi => by
    obtain ⟨n, y, hy⟩ := hel i hi
    obtain ⟨xs, n', _, _, _, hl2, hg⟩ := DataW.trod_struct Tryd.underlying37 hy
    have hl' : xs.length = 2 := hl2
    have g0 : DataW.trod enc Tryd.prog w base spare held n' 3 [V i 0] = xs[0]? := hg 0 _ rfl
    have g1 : DataW.trod enc Tryd.prog w base spare held n' 3 [V i 1] = xs[1]? := hg 1 _ rfl
    rw [List.getElem?_eq_getElem (by omega)] at g0 g1
    obtain ⟨z0, hz0, _, w0⟩ := DataW.trod_int Tryd.underlying3 g0
    obtain ⟨z1, hz1, _, w1⟩ := DataW.trod_int Tryd.underlying3 g1
    simp only [List.cons.injEq, and_true] at hz0 hz1
    exact ⟨(z0, z1), hz0, hz1, i64_range w0, i64_range w1⟩)
  have hlen : ((List.range ln).map f).length = ln := by simp
  have hm' : cp ≤ 9223372036854775807 := hm
  refine ⟨(List.range ln).map f, ⟨A, cp, by rw [hlen], by omega, fun h0 => ?_⟩, fun x hx => ?_⟩
  · rw [hlen] at h0
    obtain ⟨b, off, rfl, hc⟩ := hat h0
    refine ⟨b, off, rfl, fun i hi => ?_⟩
    rw [hlen] at hi
    have c0 := hc i hi 0 (by omega)
    have c1 := hc i hi 1 (by omega)
    rw [(hf2 i hi).1, Nat.add_zero] at c0
    rw [(hf2 i hi).2.1] at c1
    rw [getD_map f ln (0, 0) hi]
    exact ⟨c0, c1⟩
  · obtain ⟨i, hi, rfl⟩ := List.mem_map.1 hx
    exact (hf2 i (by simpa using hi)).2.2
end
end Go.Proofs.YtjpbhbfklkipkaaDoor
