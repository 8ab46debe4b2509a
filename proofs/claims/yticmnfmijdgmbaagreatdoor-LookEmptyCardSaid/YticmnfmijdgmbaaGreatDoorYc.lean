/- The walk of LookEmpty. -/
import Derived.Test.YticmnfmijdgmbaaGreatDoorYb
namespace Go.Proofs.YticmnfmijdgmbaaGreatDoor
open Go Go.RowKit Go.Lib
open X14 (It exG closeX iterB BuiltOk BuiltMany rightX behX sortX)
open S13 (u64 bitN top E0 F0 Sub hasN)
open S13.X15 (Pl LeastA askX places cxB)
set_option linter.unusedVariables false
set_option linter.unusedSimpArgs false
set_option maxRecDepth 100000 in
set_option maxHeartbeats 16000000 in
theorem empty_walk {G : GD} {gv : Value} {w : World} {Bt : Nat} (h : Gram w gv G) (ht : Tab Bt w) (hBt : Bt ≤ w.heap.size) :
  Calls Tryz.prog 6 #[gv] w fun e w' => e = .returned (.bool true) ∧ Below w.heap.size w w' := by
 have HGr := hid h
 have HT := hid ht
 obtain ⟨tv, ov, sv, pv, tf, rv, h⟩ := h
 have HGA := hid h
 have hgv := h.eq
 subst hgv
 obtain ⟨W1, e1⟩ : ∃ W1, w.alloc (.cells #[tv, ov, sv, pv, .int .i64 G.start] 27) = W1 := ⟨_, rfl⟩
 have hb1 : Below w.heap.size w W1 := by rw [← e1]; exact (Below.refl _ _).alloc (Nat.le_refl _) _
 have n1 : W1.heap[w.heap.size]? = some (.cells #[tv, ov, sv, pv, .int .i64 G.start] 27 (0, 0)) := by rw [← e1]; exact new_block _ _
 have HB1 := hid hb1
 have HN1 := hid n1
 have KW := hid (works_any W1 (ht.on (hb1.mono hBt)) (Nat.le_trans hBt hb1.size))
 clear h hb1 n1 ht
 go_enter Tryz.func6, Tryz.ntmps6
 go_wp2_with fail
 refine KW.out.mono ?_
 rintro e w2 ⟨rfl, hb2⟩
 have HB2 := hid (HB1.out.trans (hb2.mono HB1.out.size))
 have HN2 := hid ((hb2.block _ (Array.getElem?_eq_some_iff.1 HN1.out).1).trans HN1.out)
 have c0 : w2.cell? ⟨w.heap.size, 0, none⟩ = some (tv) := Lib.cell_of_heap HN2.out 0
 have c1 : w2.cell? ⟨w.heap.size, 1, none⟩ = some (ov) := Lib.cell_of_heap HN2.out 1
 have c2 : w2.cell? ⟨w.heap.size, 2, none⟩ = some (sv) := Lib.cell_of_heap HN2.out 2
 have c3 : w2.cell? ⟨w.heap.size, 3, none⟩ = some (pv) := Lib.cell_of_heap HN2.out 3
 have c4 : w2.cell? ⟨w.heap.size, 4, none⟩ = some (.int .i64 G.start) := Lib.cell_of_heap HN2.out 4
 have KF := hid (Little_any (HGr.out.below HB2.out))
 clear hb2 KW e1
 go_wp2_with fail
 refine KF.out.mono ?_
 rintro e w3 ⟨fw, rfl, hb3⟩
 have HB3 := hid (HB2.out.trans (hb3.mono HB2.out.size))
 have HN3 := hid ((hb3.block _ (Array.getElem?_eq_some_iff.1 HN2.out).1).trans HN2.out)
 clear hb3 KF c0 c1 c2 c3 c4
 cases fw
 ·go_wp2_with fail
  go_ret
  exact ⟨rfl, HB3.out⟩
 have c0 : w3.cell? ⟨w.heap.size, 0, none⟩ = some (tv) := Lib.cell_of_heap HN3.out 0
 have c1 : w3.cell? ⟨w.heap.size, 1, none⟩ = some (ov) := Lib.cell_of_heap HN3.out 1
 have c2 : w3.cell? ⟨w.heap.size, 2, none⟩ = some (sv) := Lib.cell_of_heap HN3.out 2
 have c3 : w3.cell? ⟨w.heap.size, 3, none⟩ = some (pv) := Lib.cell_of_heap HN3.out 3
 have c4 : w3.cell? ⟨w.heap.size, 4, none⟩ = some (.int .i64 G.start) := Lib.cell_of_heap HN3.out 4
 have KA := hid (All_any (HGr.out.below HB3.out) (HT.out.on (HB3.out.mono hBt)) (Nat.le_trans hBt HB3.out.size))
 go_wp2_with fail
 refine KA.out.mono ?_
 rintro e w4 hap
 obtain ⟨hb4, hcase2⟩ := all_cases hap
 have HB4 := hid (HB3.out.trans (hb4.mono HB3.out.size))
 have HN4 := hid ((hb4.block _ (Array.getElem?_eq_some_iff.1 HN3.out).1).trans HN3.out)
 clear hap hb4 KA c0 c1 c2 c3 c4
 rcases hcase2 with ⟨er, her, rfl⟩ | ⟨hval, n, hok, A, lb, lf, lc, rfl, hL, hK⟩
 ·rcases her with rfl | rfl
  ·go_wp2_with fail
   go_ret
   exact ⟨rfl, HB4.out⟩
  ·go_wp2_with fail
   go_ret
   exact ⟨rfl, HB4.out⟩
 have HVAL := hid hval
 have HOK := hid hok
 have HL := hid hL
 have HKA := hid hK
 have hn0 : 0 < n := S13.X15.n_pos hok
 have hn1 : n ≤ 2000 := built_le hok
 have HCL := hid (cx_len hval n (E0 G) (F0 G))
 clear hval hok hL hK
 obtain ⟨np, hnp⟩ : ∃ np, G.prods.length = np := ⟨_, rfl⟩
 obtain ⟨pa, pc, hpv, hpn, hpx⟩ := HGA.out.prods
 rw [hnp] at hpv hpn hpx
 subst hpv
 have c0 : w4.cell? ⟨w.heap.size, 0, none⟩ = some (tv) := Lib.cell_of_heap HN4.out 0
 have c1 : w4.cell? ⟨w.heap.size, 1, none⟩ = some (ov) := Lib.cell_of_heap HN4.out 1
 have c2 : w4.cell? ⟨w.heap.size, 2, none⟩ = some (sv) := Lib.cell_of_heap HN4.out 2
 have c3 : w4.cell? ⟨w.heap.size, 3, none⟩ = some (.slice pa np pc) := Lib.cell_of_heap HN4.out 3
 have c4 : w4.cell? ⟨w.heap.size, 4, none⟩ = some (.int .i64 G.start) := Lib.cell_of_heap HN4.out 4
 have KL := hid (S13.Lives_any (HGA.out.mono HB4.out) HVAL.out)
 have hgv2 := HGA.out.eq
 go_wp2_with fail
 refine KL.out.mono ?_
 rintro e w5 ⟨vb, L, rfl, hLv, hLh, hLs, hb5⟩
 have HLV := hid hLv
 have HB5 := hid (HB4.out.trans (hb5.mono HB4.out.size))
 have HK5 := hid (HKA.out.below hb5)
 obtain ⟨ns, hns⟩ : ∃ ns, G.sorts.length = ns := ⟨_, rfl⟩
 have HNS := hid hns
 have hnsl : ns ≤ 60 := by have := valid_start HVAL.out; omega
 have HLC := hid (show ∀ i, i < ns → w5.cell? ⟨vb, i, none⟩ = some (.bool (L.getD i false)) from fun i hi => S13.cell_bools hLh (by rw [hLv.length, hns]; exact hi))
 rw [hns]
 clear hLv hLh hLs hb5 KL hns c0 c1 c2 c3 c4
 go_wp2_with fail
 go_loop [8] (fun t8 => ∃ i : Nat, i ≤ ns ∧ t8 = .int .i64 (i : Int) ∧ ∀ j, j < i → L.getD j false = true) (fun t8 => ns - (RowKit.intOf t8).toNat)
 case atStart => exact ⟨0, Nat.zero_le _, rfl, fun j hj => absurd hj (Nat.not_lt_zero j)⟩
 case round =>
  obtain ⟨i, hi, rfl, hall⟩ := hrel
  have HALL := hid hall
  clear hall
  by_cases hlt : i < ns
  ·have j1 : (i : Int) < (ns : Int) := by omega
   have j0 : (0 : Int) ≤ (i : Int) := by omega
   have v0 := HLC.out i hlt
   obtain ⟨b, hb⟩ : ∃ b, L.getD i false = b := ⟨_, rfl⟩
   have HBB := hid hb
   rw [hb] at v0
   clear hb
   cases b
   ·go_wp2_with fail
    go_ret
    exact ⟨rfl, HB5.out⟩
   ·go_wp2_with fail
    refine ⟨⟨i + 1, by omega, by go_num, fun j hj => ?_⟩, ?_⟩
    ·rcases Nat.lt_or_ge j i with h | h
     ·exact HALL.out j h
     ·obtain rfl : j = i := by omega
      exact HBB.out
    ·simp [RowKit.intOf]
     omega
  ·have j1 : ¬ (i : Int) < (ns : Int) := by omega
   obtain rfl : i = ns := by omega
   have HNE := hid (S13.X15.ahead_some HVAL.out HOK.out (symOk HVAL.out) (S13.e0_least HVAL.out) HLV.out (S13.f0_least HVAL.out) (fun j hj => HALL.out j (by rw [← HNS.out]; exact hj)) HL.out)
   clear HALL
   go_wp2_with fail
   go_loop [9, 10] (fun t9 t10 => ∃ i : Nat, i ≤ n ∧ t9 = .int .i64 (i : Int)) (fun t9 t10 => n - (RowKit.intOf t9).toNat)
   case atStart => exact ⟨0, Nat.zero_le _, rfl⟩
   case round =>
    obtain ⟨i, hi, rfl⟩ := hrel
    by_cases hlt : i < n
    ·have m1 : (i : Int) < (n : Int) := by omega
     have m0 : (0 : Int) ≤ (i : Int) := by omega
     obtain ⟨io, ic, ao, ac, q0, q1, -, -, hq⟩ := HK5.out i hlt
     obtain ⟨N, hN⟩ : ∃ N, ((cxB G n (E0 G) (F0 G)).C i).length = N := ⟨_, rfl⟩
     have HN := hid hN
     have hNle : N ≤ 1573 := by rw [← hN]; exact HCL.out i
     rw [hN] at q0 q1
     have HQ := hid hq
     clear hN hq q0
     go_wp2_with fail
     go_loop [10] (fun t10 => ∃ k : Nat, k ≤ N ∧ t10 = .int .i64 (k : Int)) (fun t10 => N - (RowKit.intOf t10).toNat)
     case atStart => exact ⟨0, Nat.zero_le _, rfl⟩
     case round =>
      obtain ⟨k, hk, rfl⟩ := hrel
      by_cases hlt2 : k < N
      ·have k1 : (k : Int) < (N : Int) := by omega
       have k0 : (0 : Int) ≤ (k : Int) := by omega
       obtain ⟨x, hx⟩ : ∃ x, ((cxB G n (E0 G) (F0 G)).C i)[k]? = some x := ⟨_, List.getElem?_eq_getElem (by rw [HN.out]; exact hlt2)⟩
       obtain ⟨ib, jf, ab, af, rfl, x0, x1, rfl, x2⟩ := HQ.out k x hx
       have hne := HNE.out i hlt x (List.mem_of_getElem? hx)
       obtain ⟨av, hav⟩ : ∃ av, A (i, x) = av := ⟨_, rfl⟩
       rw [hav] at x2 hne
       have z0 : ((av : Int) == 0) = false := by
        rw [beq_eq_false_iff_ne]; omega
       have z1 : decide (av = 0) = false := decide_eq_false hne
       clear hx x0 x1 hav hne
       go_wp2_with fail
       refine ⟨⟨k + 1, by omega, by go_num⟩, ?_⟩
       simp [RowKit.intOf]
       omega
      ·have k1 : ¬ (k : Int) < (N : Int) := by omega
       obtain rfl : k = N := by omega
       go_wp2_with fail
       refine ⟨⟨i + 1, by omega, by go_num⟩, ?_⟩
       simp [RowKit.intOf]
       omega
    ·have m1 : ¬ (i : Int) < (n : Int) := by omega
     go_wp2_with fail
     go_ret
     exact ⟨rfl, HB5.out⟩
end Go.Proofs.YticmnfmijdgmbaaGreatDoor
