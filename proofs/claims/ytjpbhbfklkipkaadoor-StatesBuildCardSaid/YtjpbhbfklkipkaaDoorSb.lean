/- Items: right sides, what there is, what is behind a dot. -/
import Derived.Test.YtjpbhbfklkipkaaDoorSa
namespace Go.Proofs.YtjpbhbfklkipkaaDoor
open Go Go.RowKit Go.Lib
open X14 (It rightX thereX behX)
set_option linter.unusedVariables false
set_option linter.unusedSimpArgs false
/-- A grammar that lies in memory. -/
def Gram (w : World) (gv : Value) (G : GD) : Prop := ∃ tv ov sv pv tf rv, GrAt w gv G tv ov sv pv tf rv
theorem Gram.below {w w' : World} {gv : Value} {G : GD} (h : Gram w gv G) (hb : Below w.heap.size w w') : Gram w' gv G := by
  obtain ⟨tv, ov, sv, pv, tf, rv, h⟩ := h
  exact ⟨tv, ov, sv, pv, tf, rv, h.mono hb⟩
theorem valid_start {G : GD} (h : validB G = true) : 0 ≤ G.start ∧ G.start < 60 ∧ G.sorts.length ≤ 60 ∧ G.prods.length ≤ 120 ∧ G.terms.length ≤ 60 ∧ G.start < (G.sorts.length : Int) := by
  unfold validB at h
  simp only [Bool.and_eq_true, decide_eq_true_eq] at h
  obtain ⟨⟨⟨⟨⟨h1, h2⟩, h3⟩, h4⟩, h5⟩, ⟨⟨h6, h7⟩, h8⟩, h9⟩ := h
  exact ⟨h6.1, by omega, h2, h3, h1, h6.2⟩
def itV (x : It) : Value := .agg #[.int .i64 x.1, .int .i64 x.2]
def RightP (l : List Int) (w : World) (e : Ending) (w' : World) : Prop := ∃ rv, e = .returned rv ∧ IntsAt w' rv l ∧ Below w.heap.size w w'

set_option maxRecDepth 100000 in
set_option maxHeartbeats 2000000 in
theorem right_any {G : GD} {gv : Value} {w : World} (h : Gram w gv G) (hv : validB G = true) (x : It) (h1 : -1 ≤ x.1) (h2 : x.1 < (G.prods.length : Int)) :
    Calls Tryd.prog 44 #[gv, itV x] w (RightP (rightX G x.1) w) := by
  obtain ⟨tv, ov, sv, pv, tf, rv, h⟩ := h
  obtain ⟨W1, B, hW1, hB, c0, c1, c2, c3, c4, hG, hb, hsz⟩ := gr_box h
  obtain ⟨s0, s1, _⟩ := valid_start hv
  have hgv := h.eq
  subst hgv hB
  have e1 := hW1.symm
  obtain ⟨W2, e2⟩ : ∃ W2, W1.alloc (.cells #[.int .i64 x.1, .int .i64 x.2] 37) = W2 := ⟨_, rfl⟩
  have hb2 : Below W1.heap.size W1 W2 := by rw [← e2]; exact (Below.refl _ _).alloc (Nat.le_refl _) _
  have n2 : W2.heap[W1.heap.size]? = some (.cells #[.int .i64 x.1, .int .i64 x.2] 37 (0, 0)) := by rw [← e2]; exact heap_alloc_new _ _
  have d0 : W2.cell? ⟨W1.heap.size, 0, none⟩ = some (.int .i64 x.1) := Lib.cell_of_heap n2 0
  have d1 : W2.cell? ⟨W1.heap.size, 1, none⟩ = some (.int .i64 x.2) := Lib.cell_of_heap n2 1
  have c3' := cell_below hb2 c3
  have c4' := cell_below hb2 c4
  have HB2 := hid (hb.trans (hb2.mono hsz))
  have HG2 := hid (hG.mono hb2)
  unfold itV
  obtain ⟨a, b⟩ := x
  dsimp only at *
  by_cases hx : a = -1
  · subst hx
    obtain ⟨W3, e3⟩ : ∃ W3, W2.alloc (.cells #[.int .i64 (-1 - G.start)] 29) = W3 := ⟨_, rfl⟩
    have hb3 : Below W2.heap.size W2 W3 := by rw [← e3]; exact (Below.refl _ _).alloc (Nat.le_refl _) _
    have HN3 := hid (show W3.heap[W2.heap.size]? = some (.cells #[.int .i64 (-1 - G.start)] 29 (0, 0)) from by rw [← e3]; exact heap_alloc_new _ _)
    have HB3 := hid (HB2.out.trans (hb3.mono HB2.out.size))
    have HS := hid (And.intro s0 s1)
    clear hW1 hb hb2 hb3 hG h n2
    go_enter Tryd.func44, Tryd.ntmps44
    go_wp2_with fail
    go_ret
    refine ⟨_, rfl, ⟨⟨_, _, rfl, by show (1 : Nat) ≤ 9223372036854775807; decide, fun _ => ⟨_, 0, rfl, fun i hi => ?_⟩⟩, fun y hy => ?_⟩, HB3.out⟩
    · obtain rfl : i = 0 := by have : i < 1 := hi; omega
      exact Lib.cell_of_heap HN3.out 0
    · obtain rfl : y = -1 - G.start := by simpa [rightX] using hy
      have := HS.out
      omega
  · obtain ⟨p, rfl⟩ : ∃ p : Nat, a = (p : Int) := ⟨a.toNat, by omega⟩
    have hp : p < G.prods.length := by omega
    have HR := hid (show rightX G (p : Int) = (G.prods.getD p default).rs from by unfold rightX; rw [if_neg hx, Int.toNat_natCast])
    have HI := hid (HG2.out.rights p hp)
    obtain ⟨pa, pc, rfl, hpn, hpc⟩ := HG2.out.prods
    obtain ⟨pb, po, rfl, hpq⟩ := hpc (by omega)
    obtain ⟨_, _, q2, _⟩ := hpq p hp
    obtain ⟨ra, rc, hrv, _⟩ := (HG2.out.rights p hp).1
    obtain ⟨rn, hrn⟩ : ∃ rn, (G.prods.getD p default).rs.length = rn := ⟨_, rfl⟩
    rw [hrn] at hrv
    have HRV := hid hrv
    rw [hrv] at q2
    have p0 : (0 : Int) ≤ (p : Int) := by omega
    clear hW1 hb hb2 hG h n2 hpq hrv hrn
    go_enter Tryd.func44, Tryd.ntmps44
    go_wp2_with fail
    go_ret
    refine ⟨_, rfl, ?_, HB2.out⟩
    rw [HR.out]
    have := HI.out
    rw [HRV.out] at this
    exact this
end Go.Proofs.YtjpbhbfklkipkaaDoor
