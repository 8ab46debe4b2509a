/- The document's answers: right sides, which items there are, what is behind a dot. -/
import Derived.Test.YtjpbhbfklkipkaaDoorSd
import Derived.Test.YtjpbhbfklkipkaaDoorKv
namespace Go.Proofs.YtjpbhbfklkipkaaDoor
open Go Go.RowKit Go.Lib
open X14 (It rightX thereX behX)
set_option linter.unusedVariables false
set_option linter.unusedSimpArgs false
set_option maxRecDepth 100000 in
set_option maxHeartbeats 2000000 in
theorem RRight_any {G : GD} {gv : Value} {w : World} (h : Gram w gv G) (hv : validB G = true) (a : Int) (h1 : -1 ≤ a) (h2 : a < (G.prods.length : Int)) :
    Calls Tryd.prog 28 #[gv, .int .i64 a] w (RightP (rightX G a) w) := by
  obtain ⟨tv, ov, sv, pv, tf, rv, h⟩ := h
  obtain ⟨W1, B, hW1, hB, c0, c1, c2, c3, c4, hG, hb, hsz⟩ := gr_box h
  obtain ⟨s0, s1, _⟩ := valid_start hv
  have hgv := h.eq
  subst hgv hB
  have e1 := hW1.symm
  have HB2 := hid hb
  have HG2 := hid hG
  by_cases hx : a = -1
  · subst hx
    obtain ⟨W3, e3⟩ : ∃ W3, W1.alloc (.cells #[.int .i64 (-1 - G.start)] 29) = W3 := ⟨_, rfl⟩
    have hb3 : Below W1.heap.size W1 W3 := by rw [← e3]; exact (Below.refl _ _).alloc (Nat.le_refl _) _
    have HN3 := hid (show W3.heap[W1.heap.size]? = some (.cells #[.int .i64 (-1 - G.start)] 29 (0, 0)) from by rw [← e3]; exact heap_alloc_new _ _)
    have HB3 := hid (HB2.out.trans (hb3.mono HB2.out.size))
    have HS := hid (And.intro s0 s1)
    clear hW1 hb hb3 hG h
    go_enter Tryd.func28, Tryd.ntmps28
    go_wp2_with fail
    go_ret
    refine ⟨_, rfl, ⟨⟨_, _, rfl, by show (1 : Nat) ≤ 9223372036854775807; decide, fun _ => ⟨_, 0, rfl, fun i hi => ?_⟩⟩, fun y hy => ?_⟩, HB3.out⟩
    · obtain rfl : i = 0 := by have : i < 1 := hi; omega
      exact Lib.cell_of_heap HN3.out 0
    · obtain rfl : y = -1 - G.start := by simpa [rightX] using hy
      have := HS.out
      omega
  · obtain ⟨p, rfl⟩ : ∃ p : Nat, a = (p : Int) := ⟨a.toNat, by omega⟩
    have hp : p < G.prods.length := by omega
    have HR := hid (show rightX G (p : Int) = (G.prods.getD p default).rs from by unfold rightX; rw [if_neg hx, Int.toNat_natCast])
    have HI := hid (HG2.out.rights p hp)
    obtain ⟨pa, pc, rfl, hpn, hpc⟩ := HG2.out.prods
    obtain ⟨pb, po, rfl, hpq⟩ := hpc (by omega)
    obtain ⟨_, _, q2, _⟩ := hpq p hp
    obtain ⟨ra, rc, hrv, _⟩ := (HG2.out.rights p hp).1
    obtain ⟨rn, hrn⟩ : ∃ rn, (G.prods.getD p default).rs.length = rn := ⟨_, rfl⟩
    rw [hrn] at hrv
    have HRV := hid hrv
    rw [hrv] at q2
    have p0 : (0 : Int) ≤ (p : Int) := by omega
    clear hW1 hb hG h hpq hrv hrn
    go_enter Tryd.func28, Tryd.ntmps28
    go_wp2_with fail
    go_ret
    refine ⟨_, rfl, ?_, HB2.out⟩
    rw [HR.out]
    have := HI.out
    rw [HRV.out] at this
    exact this
end Go.Proofs.YtjpbhbfklkipkaaDoor
