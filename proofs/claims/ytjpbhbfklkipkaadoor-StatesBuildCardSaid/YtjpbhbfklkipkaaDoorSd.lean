/- What is behind a dot. -/
import Derived.Test.YtjpbhbfklkipkaaDoorSc
namespace Go.Proofs.YtjpbhbfklkipkaaDoor
open Go Go.RowKit Go.Lib
open X14 (It rightX thereX behX)
set_option linter.unusedVariables false
set_option linter.unusedSimpArgs false
def BehP (G : GD) (x : It) (w : World) (e : Ending) (w' : World) : Prop := e = .returned (.tuple #[.int .i64 ((behX G x).getD 0), .bool (behX G x).isSome]) ∧ Below w.heap.size w w'

set_option maxRecDepth 100000 in
set_option maxHeartbeats 8000000 in
theorem behind_any {G : GD} {gv : Value} {w : World} (h : Gram w gv G) (hv : validB G = true) (x : It) (ht : thereX G x = true) :
    Calls Tryd.prog 26 #[gv, itV x] w (BehP G x w) := by
  have HGr := hid h
  have HV := hid hv
  have hX := X14.there_iff.1 ht
  have HBX := hid (show behX G x = (rightX G x.1)[x.2.toNat]? from by unfold behX; rw [if_pos ht])
  obtain ⟨tv, ov, sv, pv, tf, rv, h⟩ := h
  obtain ⟨W1, B, hW1, hB, c0, c1, c2, c3, c4, hG, hb, hsz⟩ := gr_box h
  have hgv := h.eq
  subst hgv hB
  have e1 := hW1.symm
  obtain ⟨W2, e2⟩ : ∃ W2, W1.alloc (.cells #[.int .i64 x.1, .int .i64 x.2] 37) = W2 := ⟨_, rfl⟩
  have hb2 : Below W1.heap.size W1 W2 := by rw [← e2]; exact (Below.refl _ _).alloc (Nat.le_refl _) _
  have n2 : W2.heap[W1.heap.size]? = some (.cells #[.int .i64 x.1, .int .i64 x.2] 37 (0, 0)) := by rw [← e2]; exact heap_alloc_new _ _
  have lW : W1.heap.size < W2.heap.size := (Array.getElem?_eq_some_iff.1 n2).1
  have HB2 := hid (hb.trans (hb2.mono hsz))
  have c0 := cell_below hb2 c0
  have c1 := cell_below hb2 c1
  have c2 := cell_below hb2 c2
  have c3 := cell_below hb2 c3
  have c4 := cell_below hb2 c4
  have d0 : W2.cell? ⟨W1.heap.size, 0, none⟩ = some (.int .i64 x.1) := Lib.cell_of_heap n2 0
  have d1 : W2.cell? ⟨W1.heap.size, 1, none⟩ = some (.int .i64 x.2) := Lib.cell_of_heap n2 1
  have K := hid (right_any (HGr.out.below HB2.out) HV.out x hX.1 hX.2.1)
  have D1 := hid d1
  unfold itV at K ⊢
  clear h hG hW1 hb hb2 n2 ht
  obtain ⟨a, b⟩ := x
  dsimp only at *
  go_enter Tryd.func26, Tryd.ntmps26
  go_wp2_with fail
  refine K.out.mono ?_
  rintro e w3 ⟨rv, rfl, hrv, hb3⟩
  have HRV := hid hrv
  obtain ⟨ro, rc, rfl, hrn⟩ := right_len hrv
  have d1 := cell_below hb3 D1.out
  have HB3 := hid (HB2.out.trans (hb3.mono HB2.out.size))
  clear hb3 hrv K d0 c0 c1 c2 c3 c4
  obtain ⟨n, rfl⟩ : ∃ n : Nat, b = (n : Int) := ⟨b.toNat, by omega⟩
  rw [Int.toNat_natCast] at HBX
  by_cases he : n = (rightX G a).length
  · have HBN := hid (show behX G (a, (n : Int)) = none from by rw [HBX.out]; exact List.getElem?_eq_none (by omega))
    clear HBX
    subst he
    go_wp2_with fail
    refine bodyPost_ret (results_tmp2 rfl _ _ _) rfl ?_
    refine ⟨?_, HB3.out⟩
    rw [HBN.out]
    rfl
  · have hlt : n < (rightX G a).length := by omega
    obtain ⟨⟨ro', rc', hro, _, hcs⟩, _⟩ := HRV.out
    obtain ⟨b0, off, e, hcq⟩ := hcs (by omega)
    injection hro with hr1 hr2 hr3
    subst hr1
    subst e
    have cs : w3.cell? ⟨b0, off + n, none⟩ = some (.int .i64 ((rightX G a).getD n 0)) := hcq n hlt
    have hget : (rightX G a).getD n 0 = (rightX G a)[n] := by rw [List.getD_eq_getElem?_getD, List.getElem?_eq_getElem hlt]; rfl
    rw [hget] at cs
    have HBN := hid (show behX G (a, (n : Int)) = some (rightX G a)[n] from by rw [HBX.out]; exact List.getElem?_eq_getElem hlt)
    generalize (rightX G a)[n] = y at *
    have n0 : (0 : Int) ≤ (n : Int) := by omega
    have n1 : (n : Int) < ((rightX G a).length : Int) := by omega
    have t0 : ((n : Int) == ((rightX G a).length : Int)) = false := by rw [beq_eq_false_iff_ne]; omega
    clear HBX hcs hcq HRV hget
    go_wp2_with fail
    refine bodyPost_ret (results_tmp2 rfl _ _ _) rfl ?_
    refine ⟨?_, HB3.out⟩
    rw [HBN.out]
    rfl
end Go.Proofs.YtjpbhbfklkipkaaDoor
