/- slices.Index, slices.Contains, of items. -/
import Derived.Test.YticmnfmijdgmbaaGreatDoorXq
namespace Go.Proofs.YticmnfmijdgmbaaGreatDoor
open Go Go.RowKit Go.Lib
open X14 (It)
set_option linter.unusedVariables false
set_option linter.unusedSimpArgs false
set_option maxRecDepth 100000 in
set_option maxHeartbeats 8000000 in
theorem index_any {w : World} {v : Value} {l : List It} (hv : ItemsAt w v l) (x : It) (hl : l.length ≤ 1000000) :
  Calls Tryz.prog 95 #[v, itV x] w fun e w' => ∃ k : Int, e = .returned (.int .i64 k) ∧ Below w.heap.size w w' ∧ -1 ≤ k ∧ k ≤ 1000000 ∧ (0 ≤ k → x ∈ l) ∧ (x ∈ l → 0 ≤ k) := by
 obtain ⟨x1, x2⟩ := x
 obtain ⟨W1, e1⟩ : ∃ z, w.alloc (.cells #[.int .i64 x1, .int .i64 x2] 60) = z := ⟨_, rfl⟩
 have n1 : W1.heap[w.heap.size]? = some (.cells #[.int .i64 x1, .int .i64 x2] 60 (0, 0)) := by rw [← e1]; exact new_block _ _
 have h1 : Below w.heap.size w W1 := by rw [← e1]; exact (Below.refl _ _).alloc (Nat.le_refl _) _
 have HBW := hid h1
 obtain ⟨vo, vc, rfl, hvl, hvx⟩ := hv.below h1
 obtain ⟨N, hN⟩ : ∃ N, l.length = N := ⟨_, rfl⟩
 rw [hN] at hvl hvx hl ⊢
 have HN := hid hN
 have HVX := hid hvx
 have c0 : W1.cell? ⟨w.heap.size, 0, none⟩ = some (.int .i64 x1) := Lib.cell_of_heap n1 0
 have c1 : W1.cell? ⟨w.heap.size, 1, none⟩ = some (.int .i64 x2) := Lib.cell_of_heap n1 1
 have HX := hid (And.intro c0 c1)
 have HS := hid (show ¬ (x1, x2) ∈ l.take 0 from by simp)
 have HB := hid (Below.refl W1.heap.size W1)
 unfold itV
 clear hN hvx h1 n1 hv c0 c1
 go_enter Tryz.func95, Tryz.ntmps95
 go_wp2_with fail
 go_loopw [5, 8] (fun t5 t8 wr => ∃ (i : Nat), i ≤ N ∧ t8 = .int .i64 (i : Int) ∧ Hid (Below W1.heap.size W1 wr) ∧ Hid (¬ (x1, x2) ∈ l.take i)) (fun _ t8 _ => N - (RowKit.intOf t8).toNat)
 case atStart => exact ⟨0, Nat.zero_le _, rfl, HB, HS⟩
 case round =>
  clear HB HS e1
  obtain ⟨i, hiN, rfl, HB, HS⟩ := hrel
  by_cases hlt : i < N
  ·have j1 : (i : Int) < (N : Int) := by omega
   have j0 : (0 : Int) ≤ (i : Int) := by omega
   obtain ⟨vb, vf, rfl, hv1⟩ := HVX.out (by omega)
   have hv2 := hv1 i hlt
   obtain ⟨a, ha⟩ : ∃ a, l[i]? = some a := ⟨_, List.getElem?_eq_getElem (by rw [HN.out]; exact hlt)⟩
   obtain ⟨a1, a2⟩ := a
   rw [List.getD_eq_getElem?_getD, ha] at hv2
   obtain ⟨hv2, hv3⟩ := hv2
   have hv2 : W1.cell? ⟨vb, vf + i * 2, none⟩ = some (.int .i64 a1) := hv2
   have hv3 : W1.cell? ⟨vb, vf + i * 2 + 1, none⟩ = some (.int .i64 a2) := hv3
   have HF0 := hid (show ∀ w', Below wr.heap.size wr w' → w'.cell? ⟨vb, vf + i * 2, none⟩ = some (.int .i64 a1) ∧ w'.cell? ⟨vb, vf + i * 2 + 1, none⟩ = some (.int .i64 a2) from fun w' hC => ⟨cell_below (HB.out.trans (hC.mono HB.out.size)) hv2, cell_below (HB.out.trans (hC.mono HB.out.size)) hv3⟩)
   have HF1 := hid (show ∀ w', Below wr.heap.size wr w' → w'.cell? ⟨w.heap.size, 0, none⟩ = some (.int .i64 x1) ∧ w'.cell? ⟨w.heap.size, 1, none⟩ = some (.int .i64 x2) from fun w' hC => ⟨cell_below (HB.out.trans (hC.mono HB.out.size)) HX.out.1, cell_below (HB.out.trans (hC.mono HB.out.size)) HX.out.2⟩)
   have HA := hid ha
   clear ha hv2 hv3 hv1
   go_wp2_with fail
   by_cases h1 : x1 = a1
   ·subst h1
    by_cases h2 : x2 = a2
    ·subst h2
     refine wp_region_below (by kernel_rfl) (by kernel_rfl) ?_
     repeat (refine BigFrame.wpQuiet_want (by rfl) (fun K hK => ?_)
             apply Exists.intro
             refine ⟨fun w' hC => ?_, hK _ ?_⟩
             · obtain ⟨f0', g0'⟩ := HF0.out w' hC
               obtain ⟨f1', g1'⟩ := HF1.out w' hC
               unfold Oper.quietAt
               go_simp
               first
                 | with_reducible rfl
                 | done
             clear hK K
             try simp only [Act.put, List.setIfInBounds_toArray, List.set_cons_zero, List.set_cons_succ])
     refine wpQuiet_nil ?_
     intro w6 hb6
     have HB6 := hid (HB.out.trans (hb6.mono HB.out.size))
     clear hb6
     have HIN := hid (List.mem_of_getElem? HA.out)
     clear HF0 HF1
     go_wp2_with fail
     go_ret
     exact ⟨(i : Int), rfl, HBW.out.trans (HB6.out.mono HBW.out.size), by omega, by omega, fun _ => HIN.out, fun _ => by omega⟩
    ·have HAB : ¬ (x1, x2) = (x1, a2) := fun h => h2 (congrArg Prod.snd h)
     refine wp_region_below (by kernel_rfl) (by kernel_rfl) ?_
     repeat (refine BigFrame.wpQuiet_want (by rfl) (fun K hK => ?_)
             apply Exists.intro
             refine ⟨fun w' hC => ?_, hK _ ?_⟩
             · obtain ⟨f0', g0'⟩ := HF0.out w' hC
               obtain ⟨f1', g1'⟩ := HF1.out w' hC
               unfold Oper.quietAt
               go_simp
               first
                 | with_reducible rfl
                 | done
             clear hK K
             try simp only [Act.put, List.setIfInBounds_toArray, List.set_cons_zero, List.set_cons_succ])
     refine wpQuiet_nil ?_
     intro w6 hb6
     have HB6 := hid (HB.out.trans (hb6.mono HB.out.size))
     clear hb6
     clear HF0 HF1
     go_wp2_with fail
     refine ⟨⟨i + 1, by omega, rfl, HB6, hid fun h => ?_⟩, ?_⟩
     ·rw [List.take_add_one, HA.out] at h
      rcases List.mem_append.1 h with h | h
      ·exact HS.out h
      ·exact HAB (by simpa using h)
     ·show N - ((i : Int) + 1).toNat < N - ((i : Int)).toNat
      omega
   ·have HAB : ¬ (x1, x2) = (a1, a2) := fun h => h1 (congrArg Prod.fst h)
    refine wp_region_below (by kernel_rfl) (by kernel_rfl) ?_
    repeat (refine BigFrame.wpQuiet_want (by rfl) (fun K hK => ?_)
            apply Exists.intro
            refine ⟨fun w' hC => ?_, hK _ ?_⟩
            · obtain ⟨f0', g0'⟩ := HF0.out w' hC
              obtain ⟨f1', g1'⟩ := HF1.out w' hC
              unfold Oper.quietAt
              go_simp
              first
                | with_reducible rfl
                | done
            clear hK K
            try simp only [Act.put, List.setIfInBounds_toArray, List.set_cons_zero, List.set_cons_succ])
    refine wpQuiet_nil ?_
    intro w6 hb6
    have HB6 := hid (HB.out.trans (hb6.mono HB.out.size))
    clear hb6
    clear HF0 HF1
    go_wp2_with fail
    refine ⟨⟨i + 1, by omega, rfl, HB6, hid fun h => ?_⟩, ?_⟩
    ·rw [List.take_add_one, HA.out] at h
     rcases List.mem_append.1 h with h | h
     ·exact HS.out h
     ·exact HAB (by simpa using h)
    ·show N - ((i : Int) + 1).toNat < N - ((i : Int)).toNat
     omega
  ·have j1 : ¬ (i : Int) < (N : Int) := by omega
   have HEQ := hid (show ¬ (x1, x2) ∈ l from by
    have h1 := HS.out
    rw [List.take_of_length_le (by rw [HN.out]; omega)] at h1
    exact h1)
   go_wp2_with fail
   go_ret
   exact ⟨-1, rfl, HBW.out.trans (HB.out.mono HBW.out.size), by omega, by omega, fun h => absurd h (by decide), fun h => absurd h HEQ.out⟩
set_option maxRecDepth 100000 in
set_option maxHeartbeats 8000000 in
theorem contains_any {w : World} {v : Value} {l : List It} (hv : ItemsAt w v l) (x : It) (hl : l.length ≤ 1000000) :
  Calls Tryz.prog 54 #[v, itV x] w fun e w' => e = .returned (.bool (decide (x ∈ l))) ∧ Below w.heap.size w w' := by
 obtain ⟨W1, e1⟩ : ∃ z, w.alloc (.cells #[.int .i64 x.1, .int .i64 x.2] 60) = z := ⟨_, rfl⟩
 have n1 : W1.heap[w.heap.size]? = some (.cells #[.int .i64 x.1, .int .i64 x.2] 60 (0, 0)) := by rw [← e1]; exact new_block _ _
 have h1 : Below w.heap.size w W1 := by rw [← e1]; exact (Below.refl _ _).alloc (Nat.le_refl _) _
 have HBW := hid h1
 have c0 : W1.cell? ⟨w.heap.size, 0, none⟩ = some (.int .i64 x.1) := Lib.cell_of_heap n1 0
 have c1 : W1.cell? ⟨w.heap.size, 1, none⟩ = some (.int .i64 x.2) := Lib.cell_of_heap n1 1
 have KI := index_any (hv.below h1) x hl
 unfold itV at KI ⊢
 have KI := hid KI
 clear n1 h1 hv
 go_enter Tryz.func54, Tryz.ntmps54
 go_wp2_with fail
 refine KI.out.mono ?_
 rintro e w6 ⟨k, rfl, hb6, hk1, hk2, hk3, hk4⟩
 have HB6 := hid (HBW.out.trans (hb6.mono HBW.out.size))
 clear hb6 KI c0 c1 e1
 by_cases hk : 0 ≤ k
 ·have HIN := hid (hk3 hk)
  clear hk3 hk4
  go_wp2_with fail
  go_ret
  refine ⟨?_, HB6.out⟩
  rw [decide_eq_true HIN.out]
  rfl
 ·have HIN := hid (show ¬ x ∈ l from fun h => hk (hk4 h))
  clear hk3 hk4
  go_wp2_with fail
  go_ret
  refine ⟨?_, HB6.out⟩
  rw [decide_eq_false HIN.out]
  show Ending.returned (.bool (decide (0 ≤ k))) = _
  rw [decide_eq_false (by omega)]
end Go.Proofs.YticmnfmijdgmbaaGreatDoor

/- long: how many symbols a production's right side has. -/
namespace Go.Proofs.YticmnfmijdgmbaaGreatDoor
open Go Go.RowKit Go.Lib
open X14 (It rightX)
set_option linter.unusedVariables false
set_option linter.unusedSimpArgs false
set_option maxRecDepth 100000 in
set_option maxHeartbeats 8000000 in
theorem long_any {G : GD} {gv : Value} {w : World} (h : Gram w gv G) (p : Int) (hp0 : -1 ≤ p) (hp : p < (G.prods.length : Int)) :
  Calls Tryz.prog 55 #[gv, .int .i64 p] w fun e w' => e = .returned (.int .i64 ((rightX G p).length : Int)) ∧ Below w.heap.size w w' := by
 obtain ⟨tv, ov, sv, pv, tf, rv, h⟩ := h
 obtain ⟨W1, B, hW1, hB, c0, c1, c2, c3, c4, hG, hb, hsz⟩ := gr_box h
 have hgv := h.eq
 subst hgv hB
 have e1 := hW1.symm
 have HB1 := hid hb
 by_cases h0 : p < 0
 ·have t0 : decide (p < 0) = true := decide_eq_true h0
  have hr : (rightX G p).length = 1 := by unfold X14.rightX; rw [if_pos (by omega)]; rfl
  rw [hr]
  clear h hG hb hW1
  go_enter Tryz.func55, Tryz.ntmps55
  go_wp2_with fail
  go_ret
  exact ⟨rfl, HB1.out⟩
 ·have t0 : decide (p < 0) = false := decide_eq_false h0
  obtain ⟨j, rfl⟩ : ∃ j : Nat, p = (j : Int) := ⟨p.toNat, by omega⟩
  obtain ⟨pa, pc, rfl, hpn, hpx⟩ := hG.prods
  have hjl : j < G.prods.length := by omega
  obtain ⟨pb, po, rfl, hpq⟩ := hpx (by omega)
  obtain ⟨p0, p1, p2, p3⟩ := hpq j hjl
  obtain ⟨⟨ra, rc, hre, hrn, _⟩, _⟩ := hG.rights j hjl
  rw [hre] at p2
  have hr : rightX G (j : Int) = (G.prods.getD j default).rs := by unfold X14.rightX; rw [if_neg (by omega)]; rfl
  rw [hr]
  obtain ⟨rn, hrn2⟩ : ∃ rn, (G.prods.getD j default).rs.length = rn := ⟨_, rfl⟩
  rw [hrn2] at p2 hrn ⊢
  obtain ⟨np, hnp⟩ : ∃ np, G.prods.length = np := ⟨_, rfl⟩
  rw [hnp] at c3 hjl hp e1 ⊢
  have j1 : (j : Int) < (np : Int) := by omega
  have j0 : (0 : Int) ≤ (j : Int) := by omega
  clear h hG hb hW1 hpx hpq p0 p1 p3 hpn
  go_enter Tryz.func55, Tryz.ntmps55
  go_wp2_with fail
  go_ret
  exact ⟨rfl, HB1.out⟩
end Go.Proofs.YticmnfmijdgmbaaGreatDoor
