/- slices.Equal, of deeds and of sets; table.same. -/
import Derived.Test.YticmnfmijdgmbaaGreatDoorGb
import Derived.Test.YticmnfmijdgmbaaGreatDoorZk
import Derived.Test.YticmnfmijdgmbaaGreatDoorXm
namespace Go.Proofs.YticmnfmijdgmbaaGreatDoor
open Go Go.RowKit Go.Lib
open X14 (It)
open S16
set_option linter.unusedVariables false
set_option linter.unusedSimpArgs false
theorem RowsAt_lt {w : World} {v : Value} {n : Nat} {p q : Nat → Value → Prop} (h : RowsAt w v n p) (hpq : ∀ i u, i < n → p i u → q i u) : RowsAt w v n q := by
 obtain ⟨a, cap, rfl, hn, h⟩ := h
 refine ⟨a, cap, rfl, hn, fun h0 => ?_⟩
 obtain ⟨b, off, rfl, hc⟩ := h h0
 exact ⟨b, off, rfl, fun i hi => by
  obtain ⟨u, h1, h2⟩ := hc i hi
  exact ⟨u, h1, hpq i u hi h2⟩⟩
set_option maxRecDepth 100000 in
set_option maxHeartbeats 8000000 in
theorem eqDeeds_any {w : World} {u v : Value} {l m : List It} (hu : ItemsAt w u l) (hv : ItemsAt w v m) :
  Calls Tryz.prog 118 #[u, v] w fun e w' => e = .returned (.bool (decide (l = m))) ∧ Below w.heap.size w w' := by
 obtain ⟨uo, uc, rfl, hul, hux⟩ := hu
 obtain ⟨vo, vc, rfl, hvl, hvx⟩ := hv
 obtain ⟨N, hN⟩ : ∃ N, l.length = N := ⟨_, rfl⟩
 obtain ⟨M, hM⟩ : ∃ M, m.length = M := ⟨_, rfl⟩
 rw [hN] at hul hux ⊢
 rw [hM] at hvl hvx ⊢
 have HN := hid (And.intro hN hM)
 clear hN hM
 by_cases hNM : N = M
 ·subst hNM
  have HUX := hid hux
  have HVX := hid hvx
  have HS := hid (show l.take 0 = m.take 0 from rfl)
  have HB := hid (Below.refl w.heap.size w)
  clear hux hvx
  go_enter Tryz.func118, Tryz.ntmps118
  go_wp2_with fail
  go_loopw [5, 13] (fun t5 t13 wr => ∃ (i : Nat), i ≤ N ∧ t13 = .int .i64 (i : Int) ∧ Hid (Below w.heap.size w wr) ∧ Hid (l.take i = m.take i)) (fun _ t13 _ => N - (RowKit.intOf t13).toNat)
  case atStart => exact ⟨0, Nat.zero_le _, rfl, HB, HS⟩
  case round =>
   clear HB HS
   obtain ⟨i, hiN, rfl, HB, HS⟩ := hrel
   by_cases hlt : i < N
   ·have j1 : (i : Int) < (N : Int) := by omega
    have j0 : (0 : Int) ≤ (i : Int) := by omega
    obtain ⟨ub, uf, rfl, hu1⟩ := HUX.out (by omega)
    obtain ⟨vb, vf, rfl, hv1⟩ := HVX.out (by omega)
    have hu2 := hu1 i hlt
    have hv2 := hv1 i hlt
    obtain ⟨a, ha⟩ : ∃ a, l[i]? = some a := ⟨_, List.getElem?_eq_getElem (by rw [HN.out.1]; exact hlt)⟩
    obtain ⟨b, hb⟩ : ∃ b, m[i]? = some b := ⟨_, List.getElem?_eq_getElem (by rw [HN.out.2]; exact hlt)⟩
    rw [List.getD_eq_getElem?_getD, ha] at hu2
    rw [List.getD_eq_getElem?_getD, hb] at hv2
    obtain ⟨hu2, hu3⟩ := hu2
    have hu2 : w.cell? ⟨ub, uf + i * 2, none⟩ = some (.int .i64 a.1) := hu2
    have hu3 : w.cell? ⟨ub, uf + i * 2 + 1, none⟩ = some (.int .i64 a.2) := hu3
    obtain ⟨hv2, hv3⟩ := hv2
    have hv2 : w.cell? ⟨vb, vf + i * 2, none⟩ = some (.int .i64 b.1) := hv2
    have hv3 : w.cell? ⟨vb, vf + i * 2 + 1, none⟩ = some (.int .i64 b.2) := hv3
    have HF0 := hid (show ∀ w', Below wr.heap.size wr w' → w'.cell? ⟨ub, uf + i * 2, none⟩ = some (.int .i64 a.1) ∧ w'.cell? ⟨ub, uf + i * 2 + 1, none⟩ = some (.int .i64 a.2) from fun w' hC => ⟨cell_below (HB.out.trans (hC.mono HB.out.size)) hu2, cell_below (HB.out.trans (hC.mono HB.out.size)) hu3⟩)
    have HF1 := hid (show ∀ w', Below wr.heap.size wr w' → w'.cell? ⟨vb, vf + i * 2, none⟩ = some (.int .i64 b.1) ∧ w'.cell? ⟨vb, vf + i * 2 + 1, none⟩ = some (.int .i64 b.2) from fun w' hC => ⟨cell_below (HB.out.trans (hC.mono HB.out.size)) hv2, cell_below (HB.out.trans (hC.mono HB.out.size)) hv3⟩)
    have HA := hid (And.intro ha hb)
    clear ha hb hu2 hv2 hu1 hv1 hu3 hv3
    go_wp2_with fail
    obtain ⟨a1, a2⟩ := a
    obtain ⟨b1, b2⟩ := b
    dsimp only at HF0 HF1
    by_cases h1 : a1 = b1
    ·subst h1
     by_cases h2 : a2 = b2
     ·subst h2
      refine wp_region_below (by kernel_rfl) (by kernel_rfl) ?_
      repeat (refine BigFrame.wpQuiet_want (by rfl) (fun K hK => ?_)
              apply Exists.intro
              refine ⟨fun w' hC => ?_, hK _ ?_⟩
              · obtain ⟨f0', g0'⟩ := HF0.out w' hC
                obtain ⟨f1', g1'⟩ := HF1.out w' hC
                unfold Oper.quietAt
                go_simp
                first
                  | with_reducible rfl
                  | done
              clear hK K
              try simp only [Act.put, sjA, sj0, sjS])
      refine wpQuiet_nil ?_
      intro w6 hb6
      have HB6 := hid (HB.out.trans (hb6.mono HB.out.size))
      clear hb6
      have HS6 := hid (take_eq_succ HS.out HA.out.1 HA.out.2 rfl)
      clear HF0 HF1
      go_wp2_with fail
      refine ⟨⟨i + 1, by omega, rfl, HB6, HS6⟩, ?_⟩
      show N - ((i : Int) + 1).toNat < N - ((i : Int)).toNat
      omega
     ·have HAB : ¬ (a1, a2) = (a1, b2) := fun h => h2 (congrArg Prod.snd h)
      refine wp_region_below (by kernel_rfl) (by kernel_rfl) ?_
      repeat (refine BigFrame.wpQuiet_want (by rfl) (fun K hK => ?_)
              apply Exists.intro
              refine ⟨fun w' hC => ?_, hK _ ?_⟩
              · obtain ⟨f0', g0'⟩ := HF0.out w' hC
                obtain ⟨f1', g1'⟩ := HF1.out w' hC
                unfold Oper.quietAt
                go_simp
                first
                  | with_reducible rfl
                  | done
              clear hK K
              try simp only [Act.put, sjA, sj0, sjS])
      refine wpQuiet_nil ?_
      intro w6 hb6
      have HB6 := hid (HB.out.trans (hb6.mono HB.out.size))
      clear hb6
      have HNE := hid (take_ne HA.out.1 HA.out.2 HAB)
      go_wp2_with fail
      go_ret
      refine ⟨?_, HB6.out⟩
      rw [decide_eq_false HNE.out]
      rfl
    ·have HAB : ¬ (a1, a2) = (b1, b2) := fun h => h1 (congrArg Prod.fst h)
     refine wp_region_below (by kernel_rfl) (by kernel_rfl) ?_
     repeat (refine BigFrame.wpQuiet_want (by rfl) (fun K hK => ?_)
             apply Exists.intro
             refine ⟨fun w' hC => ?_, hK _ ?_⟩
             · obtain ⟨f0', g0'⟩ := HF0.out w' hC
               obtain ⟨f1', g1'⟩ := HF1.out w' hC
               unfold Oper.quietAt
               go_simp
               first
                 | with_reducible rfl
                 | done
             clear hK K
             try simp only [Act.put, sjA, sj0, sjS])
     refine wpQuiet_nil ?_
     intro w6 hb6
     have HB6 := hid (HB.out.trans (hb6.mono HB.out.size))
     clear hb6
     have HNE := hid (take_ne HA.out.1 HA.out.2 HAB)
     go_wp2_with fail
     go_ret
     refine ⟨?_, HB6.out⟩
     rw [decide_eq_false HNE.out]
     rfl
   ·have j1 : ¬ (i : Int) < (N : Int) := by omega
    have HEQ := hid (show l = m from by
     have h1 := HS.out
     rw [List.take_of_length_le (by rw [HN.out.1]; omega), List.take_of_length_le (by rw [HN.out.2]; omega)] at h1
     exact h1)
    go_wp2_with fail
    go_ret
    refine ⟨?_, HB.out⟩
    rw [decide_eq_true HEQ.out]
    rfl
 ·have HNE := hid (show ¬ l = m from fun h => hNM (by rw [← HN.out.1, ← HN.out.2, h]))
  have t0 : ¬ (N : Int) = (M : Int) := by omega
  clear hux hvx
  go_enter Tryz.func118, Tryz.ntmps118
  go_wp2_with fail
  go_ret
  refine ⟨?_, Below.refl _ _⟩
  rw [decide_eq_false HNE.out]
  rfl
set_option maxRecDepth 100000 in
set_option maxHeartbeats 8000000 in
theorem eqRows_any {w : World} {u v : Value} {l m : List (List It)} (hu : RowsAt w u l.length (fun i x => ItemsAt w x (l.getD i []))) (hv : RowsAt w v m.length (fun i x => ItemsAt w x (m.getD i []))) :
  Calls Tryz.prog 117 #[u, v, .func (.func 118) #[] #[]] w fun e w' => e = .returned (.bool (decide (l = m))) ∧ Below w.heap.size w w' := by
 obtain ⟨uo, uc, rfl, hul, hux⟩ := hu
 obtain ⟨vo, vc, rfl, hvl, hvx⟩ := hv
 obtain ⟨N, hN⟩ : ∃ N, l.length = N := ⟨_, rfl⟩
 obtain ⟨M, hM⟩ : ∃ M, m.length = M := ⟨_, rfl⟩
 rw [hN] at hul hux ⊢
 rw [hM] at hvl hvx ⊢
 have HN := hid (And.intro hN hM)
 clear hN hM
 by_cases hNM : N = M
 ·subst hNM
  have HUX := hid hux
  have HVX := hid hvx
  have HS := hid (show l.take 0 = m.take 0 from rfl)
  have HB := hid (Below.refl w.heap.size w)
  clear hux hvx
  go_enter Tryz.func117, Tryz.ntmps117
  go_wp2_with fail
  go_loopw [7, 8, 9, 17] (fun t7 t8 t9 t17 wr => ∃ (i : Nat), i ≤ N ∧ t17 = .int .i64 (i : Int) ∧ Hid (Below w.heap.size w wr) ∧ Hid (l.take i = m.take i)) (fun _ _ _ t17 _ => N - (RowKit.intOf t17).toNat)
  case atStart => exact ⟨0, Nat.zero_le _, rfl, HB, HS⟩
  case round =>
   clear HB HS
   obtain ⟨i, hiN, rfl, HB, HS⟩ := hrel
   by_cases hlt : i < N
   ·have j1 : (i : Int) < (N : Int) := by omega
    have j0 : (0 : Int) ≤ (i : Int) := by omega
    obtain ⟨ub, uf, rfl, hu1⟩ := HUX.out (by omega)
    obtain ⟨vb, vf, rfl, hv1⟩ := HVX.out (by omega)
    obtain ⟨x, hx, hxi⟩ := hu1 i hlt
    obtain ⟨y, hy, hyi⟩ := hv1 i hlt
    obtain ⟨a, ha⟩ : ∃ a, l[i]? = some a := ⟨_, List.getElem?_eq_getElem (by rw [HN.out.1]; exact hlt)⟩
    obtain ⟨b, hb⟩ : ∃ b, m[i]? = some b := ⟨_, List.getElem?_eq_getElem (by rw [HN.out.2]; exact hlt)⟩
    rw [List.getD_eq_getElem?_getD, ha] at hxi
    rw [List.getD_eq_getElem?_getD, hb] at hyi
    have f0 : wr.cell? ⟨ub, uf + i, none⟩ = some x := cell_below HB.out hx
    have f1 : wr.cell? ⟨vb, vf + i, none⟩ = some y := cell_below HB.out hy
    have KE := hid (eqDeeds_any (w := wr) (u := x) (v := y) (l := a) (m := b) (hxi.below HB.out) (hyi.below HB.out))
    have HA := hid (And.intro ha hb)
    clear ha hb hx hy hu1 hv1 hxi hyi
    go_wp2_with fail
    refine KE.out.mono ?_
    rintro e w6 ⟨rfl, hb6⟩
    have HB6 := hid (HB.out.trans (hb6.mono HB.out.size))
    clear hb6 KE
    by_cases hab : a = b
    ·have HS6 := hid (take_eq_succ HS.out HA.out.1 HA.out.2 hab)
     rw [decide_eq_true hab]
     go_wp2_with fail
     refine ⟨⟨i + 1, by omega, rfl, HB6, HS6⟩, ?_⟩
     show N - ((i : Int) + 1).toNat < N - ((i : Int)).toNat
     omega
    ·have HNE := hid (take_ne HA.out.1 HA.out.2 hab)
     rw [decide_eq_false hab]
     clear hab
     go_wp2_with fail
     go_ret
     refine ⟨?_, HB6.out⟩
     rw [decide_eq_false HNE.out]
     rfl
   ·have j1 : ¬ (i : Int) < (N : Int) := by omega
    have HEQ := hid (show l = m from by
     have h1 := HS.out
     rw [List.take_of_length_le (by rw [HN.out.1]; omega), List.take_of_length_le (by rw [HN.out.2]; omega)] at h1
     exact h1)
    go_wp2_with fail
    go_ret
    refine ⟨?_, HB.out⟩
    rw [decide_eq_true HEQ.out]
    rfl
 ·have HNE := hid (show ¬ l = m from fun h => hNM (by rw [← HN.out.1, ← HN.out.2, h]))
  have t0 : ¬ (N : Int) = (M : Int) := by omega
  clear hux hvx
  go_enter Tryz.func117, Tryz.ntmps117
  go_wp2_with fail
  go_ret
  refine ⟨?_, Below.refl _ _⟩
  rw [decide_eq_false HNE.out]
  rfl
set_option maxRecDepth 100000 in
set_option maxHeartbeats 8000000 in
theorem eqSets_any {w : World} {u v : Value} {l m : List Nat} (hu : U64s w u l) (hv : U64s w v m) :
  Calls Tryz.prog 119 #[u, v] w fun e w' => e = .returned (.bool (decide (l = m))) ∧ Below w.heap.size w w' := by
 obtain ⟨uo, uc, rfl, hul, hux⟩ := hu
 obtain ⟨vo, vc, rfl, hvl, hvx⟩ := hv
 obtain ⟨N, hN⟩ : ∃ N, l.length = N := ⟨_, rfl⟩
 obtain ⟨M, hM⟩ : ∃ M, m.length = M := ⟨_, rfl⟩
 rw [hN] at hul hux ⊢
 rw [hM] at hvl hvx ⊢
 have HN := hid (And.intro hN hM)
 clear hN hM
 by_cases hNM : N = M
 ·subst hNM
  have HUX := hid hux
  have HVX := hid hvx
  have HS := hid (show l.take 0 = m.take 0 from rfl)
  have HB := hid (Below.refl w.heap.size w)
  clear hux hvx
  go_enter Tryz.func119, Tryz.ntmps119
  go_wp2_with fail
  go_loopw [5, 13] (fun t5 t13 wr => ∃ (i : Nat), i ≤ N ∧ t13 = .int .i64 (i : Int) ∧ Hid (Below w.heap.size w wr) ∧ Hid (l.take i = m.take i)) (fun _ t13 _ => N - (RowKit.intOf t13).toNat)
  case atStart => exact ⟨0, Nat.zero_le _, rfl, HB, HS⟩
  case round =>
   clear HB HS
   obtain ⟨i, hiN, rfl, HB, HS⟩ := hrel
   by_cases hlt : i < N
   ·have j1 : (i : Int) < (N : Int) := by omega
    have j0 : (0 : Int) ≤ (i : Int) := by omega
    obtain ⟨ub, uf, rfl, hu1⟩ := HUX.out (by omega)
    obtain ⟨vb, vf, rfl, hv1⟩ := HVX.out (by omega)
    have hu2 := hu1 i hlt
    have hv2 := hv1 i hlt
    obtain ⟨a, ha⟩ : ∃ a, l[i]? = some a := ⟨_, List.getElem?_eq_getElem (by rw [HN.out.1]; exact hlt)⟩
    obtain ⟨b, hb⟩ : ∃ b, m[i]? = some b := ⟨_, List.getElem?_eq_getElem (by rw [HN.out.2]; exact hlt)⟩
    rw [List.getD_eq_getElem?_getD, ha] at hu2
    rw [List.getD_eq_getElem?_getD, hb] at hv2
    have hu2 : w.cell? ⟨ub, uf + i, none⟩ = some (S13.u64 a) := hu2
    have hv2 : w.cell? ⟨vb, vf + i, none⟩ = some (S13.u64 b) := hv2
    have HF0 := hid (show ∀ w', Below wr.heap.size wr w' → w'.cell? ⟨ub, uf + i, none⟩ = some (S13.u64 a) from fun w' hC => cell_below (HB.out.trans (hC.mono HB.out.size)) hu2)
    have HF1 := hid (show ∀ w', Below wr.heap.size wr w' → w'.cell? ⟨vb, vf + i, none⟩ = some (S13.u64 b) from fun w' hC => cell_below (HB.out.trans (hC.mono HB.out.size)) hv2)
    have HA := hid (And.intro ha hb)
    clear ha hb hu2 hv2 hu1 hv1
    go_wp2_with fail
    refine wp_region_below (by kernel_rfl) (by kernel_rfl) ?_
    repeat (refine BigFrame.wpQuiet_want (by rfl) (fun K hK => ?_)
            apply Exists.intro
            refine ⟨fun w' hC => ?_, hK _ ?_⟩
            · have f0' := HF0.out w' hC
              have f1' := HF1.out w' hC
              unfold Oper.quietAt
              go_simp
              first
                | with_reducible rfl
                | done
            clear hK K
            try simp only [Act.put, sjA, sj0, sjS])
    refine wpQuiet_nil ?_
    intro w6 hb6
    have HB6 := hid (HB.out.trans (hb6.mono HB.out.size))
    clear hb6
    by_cases hab : a = b
    ·have HS6 := hid (take_eq_succ HS.out HA.out.1 HA.out.2 hab)
     subst hab
     clear HF0 HF1
     go_wp2_with fail
     refine ⟨⟨i + 1, by omega, rfl, HB6, HS6⟩, ?_⟩
     show N - ((i : Int) + 1).toNat < N - ((i : Int)).toNat
     omega
    ·have HNE := hid (take_ne HA.out.1 HA.out.2 hab)
     go_wp2_with fail
     go_ret
     refine ⟨?_, HB6.out⟩
     rw [decide_eq_false HNE.out]
     rfl
   ·have j1 : ¬ (i : Int) < (N : Int) := by omega
    have HEQ := hid (show l = m from by
     have h1 := HS.out
     rw [List.take_of_length_le (by rw [HN.out.1]; omega), List.take_of_length_le (by rw [HN.out.2]; omega)] at h1
     exact h1)
    go_wp2_with fail
    go_ret
    refine ⟨?_, HB.out⟩
    rw [decide_eq_true HEQ.out]
    rfl
 ·have HNE := hid (show ¬ l = m from fun h => hNM (by rw [← HN.out.1, ← HN.out.2, h]))
  have t0 : ¬ (N : Int) = (M : Int) := by omega
  clear hux hvx
  go_enter Tryz.func119, Tryz.ntmps119
  go_wp2_with fail
  go_ret
  refine ⟨?_, Below.refl _ _⟩
  rw [decide_eq_false HNE.out]
  rfl
set_option maxRecDepth 100000 in
set_option maxHeartbeats 8000000 in
theorem sameT_any {w : World} {u v : Value} {n m : Nat} {D : Nat → Nat → List It} {Nx : Nat → List Int} (ha : TabAt w u n m D Nx) (hb : TabAt w v n m D Nx) :
  Calls Tryz.prog 81 #[u, v] w fun e w' => e = .returned (.bool true) ∧ Below w.heap.size w w' := by
 obtain ⟨du, nu, mu, rfl, a1, a2, a3⟩ := ha
 obtain ⟨dv, nv, mv, rfl, b1, b2, b3⟩ := hb
 have hg : ∀ (α : Type) (f : Nat → α) (d : α) i, i < n → ((List.range n).map f).getD i d = f i := fun α f d i hi => by
  rw [List.getD_eq_getElem?_getD, List.getElem?_map, List.getElem?_range hi]; rfl
 have hl : ∀ (α : Type) (f : Nat → α), ((List.range n).map f).length = n := fun α f => by simp
 obtain ⟨W1, e1⟩ : ∃ W1, w.alloc (.cells #[du, nu, mu] 96) = W1 := ⟨_, rfl⟩
 have h1 : Below w.heap.size w W1 := by rw [← e1]; exact (Below.refl _ _).alloc (Nat.le_refl _) _
 have n1 : W1.heap[w.heap.size]? = some (.cells #[du, nu, mu] 96 (0, 0)) := by rw [← e1]; exact new_block _ _
 obtain ⟨W2, e2⟩ : ∃ W2, W1.alloc (.cells #[dv, nv, mv] 96) = W2 := ⟨_, rfl⟩
 have h2 : Below W1.heap.size W1 W2 := by rw [← e2]; exact (Below.refl _ _).alloc (Nat.le_refl _) _
 have n2 : W2.heap[W1.heap.size]? = some (.cells #[dv, nv, mv] 96 (0, 0)) := by rw [← e2]; exact new_block _ _
 have n1' := (h2.block _ (Array.getElem?_eq_some_iff.1 n1).1).trans n1
 have hb12 : Below w.heap.size w W2 := h1.trans (h2.mono h1.size)
 have HB2 := hid hb12
 have HC := hid (show ∀ w', Below W2.heap.size W2 w' → (w'.cell? ⟨w.heap.size, 0, none⟩ = some du ∧ w'.cell? ⟨w.heap.size, 1, none⟩ = some nu ∧ w'.cell? ⟨w.heap.size, 2, none⟩ = some mu) ∧ (w'.cell? ⟨W1.heap.size, 0, none⟩ = some dv ∧ w'.cell? ⟨W1.heap.size, 1, none⟩ = some nv ∧ w'.cell? ⟨W1.heap.size, 2, none⟩ = some mv) from fun w' hC =>
  ⟨⟨cell_below hC (Lib.cell_of_heap n1' 0), cell_below hC (Lib.cell_of_heap n1' 1), cell_below hC (Lib.cell_of_heap n1' 2)⟩, ⟨cell_below hC (Lib.cell_of_heap n2 0), cell_below hC (Lib.cell_of_heap n2 1), cell_below hC (Lib.cell_of_heap n2 2)⟩⟩)
 have HR := hid (show ∀ w', Below w.heap.size w w' → Calls Tryz.prog 117 #[du, dv, .func (.func 118) #[] #[]] w' fun e w'' => e = .returned (.bool true) ∧ Below w'.heap.size w' w'' from fun w' hC => by
  have := eqRows_any (w := w') (u := du) (v := dv) (l := (List.range n).map fun i => onlyX (D i) m m) (m := (List.range n).map fun i => onlyX (D i) m m)
   (by rw [hl]; exact RowsAt_lt (a1.below hC fun i u hu => hu.below hC) fun i u hi hu => by rw [hg _ _ _ i hi]; exact hu)
   (by rw [hl]; exact RowsAt_lt (b1.below hC fun i u hu => hu.below hC) fun i u hi hu => by rw [hg _ _ _ i hi]; exact hu)
  rw [decide_eq_true rfl] at this
  exact this)
 have HN := hid (show ∀ w', Below w.heap.size w w' → Calls Tryz.prog 109 #[nu, nv, .func (.func 110) #[] #[]] w' fun e w'' => e = .returned (.bool true) ∧ Below w'.heap.size w' w'' from fun w' hC => by
  have := eqNexts_any (w := w') (u := nu) (v := nv) (l := (List.range n).map Nx) (m := (List.range n).map Nx)
   (by rw [hl]; exact RowsAt_lt (a2.below hC fun i u hu => hu.mono hC) fun i u hi hu => by rw [hg _ _ _ i hi]; exact hu)
   (by rw [hl]; exact RowsAt_lt (b2.below hC fun i u hu => hu.mono hC) fun i u hi hu => by rw [hg _ _ _ i hi]; exact hu)
  rw [decide_eq_true rfl] at this
  exact this)
 have HM := hid (show ∀ w', Below w.heap.size w w' → Calls Tryz.prog 119 #[mu, mv] w' fun e w'' => e = .returned (.bool true) ∧ Below w'.heap.size w' w'' from fun w' hC => by
  have := eqSets_any (w := w') (u := mu) (v := mv) (RowAt.mono a3 fun _ _ _ hc => cell_below hC hc) (RowAt.mono b3 fun _ _ _ hc => cell_below hC hc)
  rw [decide_eq_true rfl] at this
  exact this)
 obtain ⟨⟨c0, c1, c2⟩, ⟨d0, d1, d2⟩⟩ := HC.out W2 (Below.refl _ _)
 have K1 := hid (HR.out W2 hb12)
 clear n1 n2 h1 h2 n1' a1 a2 a3 b1 b2 b3 hb12
 go_enter Tryz.func81, Tryz.ntmps81
 go_wp2_with fail
 refine K1.out.mono ?_
 rintro e w6 ⟨rfl, hb6⟩
 have HB6 := hid (HB2.out.trans (hb6.mono HB2.out.size))
 have HX6 := hid hb6
 clear c0 c1 c2 d0 d1 d2 K1 hb6 e1 e2
 obtain ⟨⟨c0, c1, c2⟩, ⟨d0, d1, d2⟩⟩ := HC.out w6 HX6.out
 have K2 := hid (HN.out w6 HB6.out)
 go_wp2_with fail
 refine K2.out.mono ?_
 rintro e w7 ⟨rfl, hb7⟩
 have HB7 := hid (HB6.out.trans (hb7.mono HB6.out.size))
 have HX7 := hid (HX6.out.trans (hb7.mono HX6.out.size))
 clear c0 c1 c2 d0 d1 d2 K2 hb7
 obtain ⟨⟨c0, c1, c2⟩, ⟨d0, d1, d2⟩⟩ := HC.out w7 HX7.out
 have K3 := hid (HM.out w7 HB7.out)
 go_wp2_with fail
 refine K3.out.mono ?_
 rintro e w8 ⟨rfl, hb8⟩
 have HB8 := hid (HB7.out.trans (hb8.mono HB7.out.size))
 clear c0 c1 c2 d0 d1 d2 K3 hb8
 go_wp2_with fail
 go_ret
 exact ⟨rfl, HB8.out⟩
end Go.Proofs.YticmnfmijdgmbaaGreatDoor
