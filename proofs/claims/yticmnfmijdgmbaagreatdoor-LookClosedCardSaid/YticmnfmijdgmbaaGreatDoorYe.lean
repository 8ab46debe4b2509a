/- The walk of LookClosed. -/
import Derived.Test.YticmnfmijdgmbaaGreatDoorYb
namespace Go.Proofs.YticmnfmijdgmbaaGreatDoor
open Go Go.RowKit Go.Lib
open X14 (It exG closeX iterB BuiltOk BuiltMany rightX behX sortX)
open S13 (u64 bitN top E0 F0 Sub hasN)
open S13.X15 (Pl LeastA askX places cxB)
set_option linter.unusedVariables false
set_option linter.unusedSimpArgs false
open S13 (cutV run_cut cut_at)
def RightC (l : List Int) (w : World) (e : Ending) (w' : World) : Prop := ∃ o c, e = .returned (.slice o l.length c) ∧ l.length ≤ c ∧ IntsAt w' (.slice o l.length c) l ∧ Below w.heap.size w w'
set_option maxRecDepth 100000 in
set_option maxHeartbeats 2000000 in
theorem RRightC_any {G : GD} {gv : Value} {w : World} (h : Gram w gv G) (hv : validB G = true) (a : Int) (h1 : -1 ≤ a) (h2 : a < (G.prods.length : Int)) :
  Calls Tryz.prog 26 #[gv, .int .i64 a] w (RightC (rightX G a) w) := by
 obtain ⟨tv, ov, sv, pv, tf, rv, h⟩ := h
 obtain ⟨W1, B, hW1, hB, c0, c1, c2, c3, c4, hG, hb, hsz⟩ := gr_box h
 obtain ⟨s0, s1, _⟩ := valid_start hv
 have hgv := h.eq
 subst hgv hB
 have e1 := hW1.symm
 have HB2 := hid hb
 have HG2 := hid hG
 by_cases hx : a = -1
 ·subst hx
  obtain ⟨W3, e3⟩ : ∃ W3, W1.alloc (.cells #[.int .i64 (-1 - G.start)] 61) = W3 := ⟨_, rfl⟩
  have hb3 : Below W1.heap.size W1 W3 := by rw [← e3]; exact (Below.refl _ _).alloc (Nat.le_refl _) _
  have HN3 := hid (show W3.heap[W1.heap.size]? = some (.cells #[.int .i64 (-1 - G.start)] 61 (0, 0)) from by rw [← e3]; exact heap_alloc_new _ _)
  have HB3 := hid (HB2.out.trans (hb3.mono HB2.out.size))
  have HS := hid (And.intro s0 s1)
  clear hW1 hb hb3 hG h
  go_enter Tryz.func26, Tryz.ntmps26
  go_wp2_with fail
  go_ret
  refine ⟨_, _, rfl, Nat.le_refl _, ⟨⟨_, _, rfl, by show (1 : Nat) ≤ 9223372036854775807; decide, fun _ => ⟨_, 0, rfl, fun i hi => ?_⟩⟩, fun y hy => ?_⟩, HB3.out⟩
  ·obtain rfl : i = 0 := by have : i < 1 := hi; omega
   exact Lib.cell_of_heap HN3.out 0
  ·obtain rfl : y = -1 - G.start := by simpa [rightX] using hy
   have := HS.out
   omega
 ·obtain ⟨p, rfl⟩ : ∃ p : Nat, a = (p : Int) := ⟨a.toNat, by omega⟩
  have hp : p < G.prods.length := by omega
  have HR := hid (show rightX G (p : Int) = (G.prods.getD p default).rs from by unfold rightX; rw [if_neg hx, Int.toNat_natCast])
  have HI := hid (HG2.out.rights p hp)
  obtain ⟨pa, pc, rfl, hpn, hpc⟩ := HG2.out.prods
  obtain ⟨pb, po, rfl, hpq⟩ := hpc (by omega)
  obtain ⟨_, _, q2, _⟩ := hpq p hp
  obtain ⟨ra, rc, hrv, _⟩ := (HG2.out.rights p hp).1
  obtain ⟨rn, hrn⟩ : ∃ rn, (G.prods.getD p default).rs.length = rn := ⟨_, rfl⟩
  have HRN := hid hrn
  rw [hrn] at hrv
  have HRV := hid hrv
  rw [hrv] at q2
  have p0 : (0 : Int) ≤ (p : Int) := by omega
  clear hW1 hb hG h hpq hrv hrn
  go_enter Tryz.func26, Tryz.ntmps26
  go_wp2_with fail
  go_ret
  have hcap := HG2.out.caps p hp _ _ _ HRV.out
  have hrl : (rightX G (p : Int)).length = rn := by rw [HR.out]; exact HRN.out
  refine ⟨ra, rc, by rw [hrl]; rfl, by rw [hrl]; exact hcap, ?_, HB2.out⟩
  rw [HR.out, HRN.out]
  have := HI.out
  rw [HRV.out] at this
  exact this
theorem all_err {G : GD} {w w' : World} {e : Ending} {er : Int} (hp : (er = 1 ∧ validB G = false) ∨ (er = 4 ∧ ∃ n, BuiltMany G n ∧ validB G = true)) (h : AllP G w e w') : e = .returned (.tuple #[.slice none 0 0, .int .i64 er]) ∧ Below w.heap.size w w' := by
 obtain ⟨hb, ⟨hv, h⟩ | ⟨hv, n, ⟨hm, h⟩ | ⟨h, v, A, e1, h2, h3⟩⟩⟩ := h
 ·rcases hp with ⟨rfl, _⟩ | ⟨_, _, _, h2⟩
  ·exact ⟨h, hb⟩
  ·rw [hv] at h2; cases h2
 ·rcases hp with ⟨_, h2⟩ | ⟨rfl, _⟩
  ·rw [hv] at h2; cases h2
  ·exact ⟨h, hb⟩
 ·rcases hp with ⟨_, h2⟩ | ⟨_, m, hm, _⟩
  ·rw [hv] at h2; cases h2
  ·exact (X14.Built.not h hm).elim
theorem all_ok {G : GD} {w w' : World} {e : Ending} {n : Nat} (hv : validB G = true) (hn : BuiltOk G n) (h : AllP G w e w') : Below w.heap.size w w' ∧ ∃ A lb lf lc, e = .returned (.tuple #[.slice (some ⟨lb, lf, none⟩) n lc, .int .i64 0]) ∧
  LeastA (askX (cxB G n (E0 G) (F0 G))) (places (cxB G n (E0 G) (F0 G)) n) (0, (-1, 0)) (bitN 63) A ∧ LookR w' lb lf n (cxB G n (E0 G) (F0 G)).C A := by
 obtain ⟨hb, ⟨hv2, h⟩ | ⟨_, m, ⟨hm, h⟩ | ⟨h, v, A, e1, h2, h3⟩⟩⟩ := h
 ·rw [hv] at hv2; cases hv2
 ·exact (X14.Built.not hn hm).elim
 ·obtain rfl := X14.Built.one h hn
  obtain ⟨lb, lf, lc, rfl, h4⟩ := look_r h3 (S13.X15.n_pos h)
  exact ⟨hb, A, lb, lf, lc, e1, h2, h4⟩
set_option maxRecDepth 100000 in
set_option maxHeartbeats 16000000 in
theorem closed_walk {G : GD} {gv : Value} {w : World} {Bt : Nat} (h : Gram w gv G) (ht : Tab Bt w) (hBt : Bt ≤ w.heap.size) :
  Calls Tryz.prog 4 #[gv] w fun e w' => e = .returned (.bool true) ∧ Below w.heap.size w w' := by
 have HGr := hid h
 have HT := hid ht
 obtain ⟨tv, ov, sv, pv, tf, rv, h⟩ := h
 have HGA := hid h
 have hgv := h.eq
 subst hgv
 obtain ⟨W1, e1⟩ : ∃ W1, w.alloc (.cells #[tv, ov, sv, pv, .int .i64 G.start] 27) = W1 := ⟨_, rfl⟩
 have hb1 : Below w.heap.size w W1 := by rw [← e1]; exact (Below.refl _ _).alloc (Nat.le_refl _) _
 have n1 : W1.heap[w.heap.size]? = some (.cells #[tv, ov, sv, pv, .int .i64 G.start] 27 (0, 0)) := by rw [← e1]; exact new_block _ _
 have HB1 := hid hb1
 have HN1 := hid n1
 have KW := hid (works_any W1 (ht.on (hb1.mono hBt)) (Nat.le_trans hBt hb1.size))
 clear h hb1 n1 ht
 go_enter Tryz.func4, Tryz.ntmps4
 go_wp2_with fail
 refine KW.out.mono ?_
 rintro e w2 ⟨rfl, hb2⟩
 have HB2 := hid (HB1.out.trans (hb2.mono HB1.out.size))
 have HN2 := hid ((hb2.block _ (Array.getElem?_eq_some_iff.1 HN1.out).1).trans HN1.out)
 have c0 : w2.cell? ⟨w.heap.size, 0, none⟩ = some (tv) := Lib.cell_of_heap HN2.out 0
 have c1 : w2.cell? ⟨w.heap.size, 1, none⟩ = some (ov) := Lib.cell_of_heap HN2.out 1
 have c2 : w2.cell? ⟨w.heap.size, 2, none⟩ = some (sv) := Lib.cell_of_heap HN2.out 2
 have c3 : w2.cell? ⟨w.heap.size, 3, none⟩ = some (pv) := Lib.cell_of_heap HN2.out 3
 have c4 : w2.cell? ⟨w.heap.size, 4, none⟩ = some (.int .i64 G.start) := Lib.cell_of_heap HN2.out 4
 have KF := hid (Little_any (HGr.out.below HB2.out))
 clear hb2 KW e1
 go_wp2_with fail
 refine KF.out.mono ?_
 rintro e w3 ⟨fw, rfl, hb3⟩
 have HB3 := hid (HB2.out.trans (hb3.mono HB2.out.size))
 have HN3 := hid ((hb3.block _ (Array.getElem?_eq_some_iff.1 HN2.out).1).trans HN2.out)
 clear hb3 KF c0 c1 c2 c3 c4
 cases fw
 ·go_wp2_with fail
  go_ret
  exact ⟨rfl, HB3.out⟩
 have c0 : w3.cell? ⟨w.heap.size, 0, none⟩ = some (tv) := Lib.cell_of_heap HN3.out 0
 have c1 : w3.cell? ⟨w.heap.size, 1, none⟩ = some (ov) := Lib.cell_of_heap HN3.out 1
 have c2 : w3.cell? ⟨w.heap.size, 2, none⟩ = some (sv) := Lib.cell_of_heap HN3.out 2
 have c3 : w3.cell? ⟨w.heap.size, 3, none⟩ = some (pv) := Lib.cell_of_heap HN3.out 3
 have c4 : w3.cell? ⟨w.heap.size, 4, none⟩ = some (.int .i64 G.start) := Lib.cell_of_heap HN3.out 4
 have KB := hid (Build_any (HGr.out.below HB3.out) (HT.out.on (HB3.out.mono hBt)) (Nat.le_trans hBt HB3.out.size))
 go_wp2_with fail
 refine KB.out.mono ?_
 rintro e w4 ⟨hb4, hcase⟩
 have HB4 := hid (HB3.out.trans (hb4.mono HB3.out.size))
 have HN4 := hid ((hb4.block _ (Array.getElem?_eq_some_iff.1 HN3.out).1).trans HN3.out)
 clear hb4 KB c0 c1 c2 c3 c4
 have hcase2 : (∃ er : Int, ((er = 1 ∧ validB G = false) ∨ (er = 4 ∧ ∃ n, BuiltMany G n ∧ validB G = true)) ∧ e = .returned (.tuple #[.agg #[.slice none 0 0, .slice none 0 0], .int .i64 er])) ∨ (validB G = true ∧ ∃ n, BuiltOk G n ∧ ∃ av, e = .returned (.tuple #[av, .int .i64 0]) ∧ AutAt w4 av (iterB G n).ker (iterB G n).nx) := by
  rcases hcase with ⟨h1, h2⟩ | ⟨hv, n, h2 | ⟨h2, h3⟩⟩
  ·exact .inl ⟨1, .inl ⟨rfl, h1⟩, h2⟩
  ·exact .inl ⟨4, .inr ⟨rfl, n, h2.1, hv⟩, h2.2⟩
  ·exact .inr ⟨hv, n, h2, h3⟩
 clear hcase
 rcases hcase2 with ⟨er, her, rfl⟩ | ⟨hval, n, hok, av, rfl, hav⟩
 ·obtain ⟨wA, eA⟩ : ∃ wA, w4.alloc (.cells #[.slice none 0 0, .slice none 0 0] 55) = wA := ⟨_, rfl⟩
  have nA : wA.heap[w4.heap.size]? = some (.cells #[.slice none 0 0, .slice none 0 0] 55 (0, 0)) := by rw [← eA]; exact new_block _ _
  have a0 : wA.cell? ⟨w4.heap.size, 0, none⟩ = some (.slice none 0 0) := Lib.cell_of_heap nA 0
  have g0 := Lib.frozen_of_heap nA 0
  obtain ⟨wb, eb⟩ : ∃ wb, wA.setCell ⟨w4.heap.size, 0, none⟩ (.slice none 0 0) = wb := ⟨_, rfl⟩
  have nb : wb.heap[w4.heap.size]? = some (.cells #[.slice none 0 0, .slice none 0 0] 55 (0, 0)) := by rw [← eb]; exact heap_setCell_same _ _ 0 _ 55 _ nA
  have a1 : wb.cell? ⟨w4.heap.size, 1, none⟩ = some (.slice none 0 0) := Lib.cell_of_heap nb 1
  have g1 := Lib.frozen_of_heap nb 1
  obtain ⟨wc, ec⟩ : ∃ wc, wb.setCell ⟨w4.heap.size, 1, none⟩ (.slice none 0 0) = wc := ⟨_, rfl⟩
  have HBA := hid (show Below w.heap.size w wc from by
   rw [← ec, ← eb, ← eA]
   exact ((HB4.out.alloc HB4.out.size _).setCell HB4.out.size _).setCell HB4.out.size _)
  have h4c : Below w4.heap.size w4 wc := by
   rw [← ec, ← eb, ← eA]
   exact (((Below.refl _ _).alloc (Nat.le_refl _) _).setCell (Nat.le_refl _) _).setCell (Nat.le_refl _) _
  have HNA := hid ((h4c.block _ (Array.getElem?_eq_some_iff.1 HN4.out).1).trans HN4.out)
  have c0 : wc.cell? ⟨w.heap.size, 0, none⟩ = some (tv) := Lib.cell_of_heap HNA.out 0
  have c1 : wc.cell? ⟨w.heap.size, 1, none⟩ = some (ov) := Lib.cell_of_heap HNA.out 1
  have c2 : wc.cell? ⟨w.heap.size, 2, none⟩ = some (sv) := Lib.cell_of_heap HNA.out 2
  have c3 : wc.cell? ⟨w.heap.size, 3, none⟩ = some (pv) := Lib.cell_of_heap HNA.out 3
  have c4 : wc.cell? ⟨w.heap.size, 4, none⟩ = some (.int .i64 G.start) := Lib.cell_of_heap HNA.out 4
  have KA := hid (All_any (HGr.out.below HBA.out) (HT.out.on (HBA.out.mono hBt)) (Nat.le_trans hBt HBA.out.size))
  have HER := hid her
  have her2 : er = 1 ∨ er = 4 := by rcases her with ⟨h, _⟩ | ⟨h, _⟩ <;> simp [h]
  clear nA nb h4c her
  go_wp2_with fail
  refine KA.out.mono ?_
  rintro e w5 hap
  obtain ⟨rfl, hb5⟩ := all_err HER.out hap
  have HB5 := hid (HBA.out.trans (hb5.mono HBA.out.size))
  clear hap hb5 KA c0 c1 c2 c3 c4 HER
  rcases her2 with rfl | rfl
  ·go_wp2_with fail
   go_ret
   exact ⟨rfl, HB5.out⟩
  ·go_wp2_with fail
   go_ret
   exact ⟨rfl, HB5.out⟩
 have HVAL := hid hval
 have HOK := hid hok
 have HAV := hid hav
 obtain ⟨hI, hat, hkl⟩ := hok.inv
 have hnl := (X14.iterB_at G n).2
 have HNX := hid (NxOk.built hok)
 have HTO := hid (show ∀ i s, (cxB G n (E0 G) (F0 G)).to i s = (goX G (iterB G n).nx i s).toNat from fun i s => rfl)
 have HGB := hid (fun (i : Nat) (x : It) (s : Int) (hi : i < n) (hx : x ∈ (cxB G n (E0 G) (F0 G)).C i) (hb : behX G x = some s) => S13.X15.go_built (E := E0 G) (F := F0 G) hok (symOk hval) hi hx hb)
 have HCL := hid (cx_len hval n (E0 G) (F0 G))
 have hn1 : n ≤ 2000 := built_le hok
 have hn0 : 0 < n := S13.X15.n_pos hok
 obtain ⟨np, hnp⟩ : ∃ np, G.prods.length = np := ⟨_, rfl⟩
 obtain ⟨pa, pc, hpv, hpn, hpx⟩ := HGA.out.prods
 rw [hnp] at hpv hpn hpx
 subst hpv
 generalize (iterB G n).ker = KER at *
 generalize (iterB G n).nx = NX at *
 obtain ⟨kv, nv, rfl, hkv, hnv⟩ := hav
 obtain ⟨ko, kc, rfl, hk63⟩ := hkv.len
 obtain ⟨no, nc, rfl, _⟩ := hnv.len
 rw [hkl] at HAV ⊢
 rw [hnl] at HAV ⊢
 obtain ⟨wA, eA⟩ : ∃ wA, w4.alloc (.cells #[.slice ko n kc, .slice no n nc] 55) = wA := ⟨_, rfl⟩
 have hbA : Below w4.heap.size w4 wA := by rw [← eA]; exact (Below.refl _ _).alloc (Nat.le_refl _) _
 have nA : wA.heap[w4.heap.size]? = some (.cells #[.slice ko n kc, .slice no n nc] 55 (0, 0)) := by rw [← eA]; exact new_block _ _
 have HBA := hid (HB4.out.trans (hbA.mono HB4.out.size))
 have HNA := hid ((hbA.block _ (Array.getElem?_eq_some_iff.1 HN4.out).1).trans HN4.out)
 have HAA := hid nA
 have HAVA := hid (HAV.out.below hbA)
 have c0 : wA.cell? ⟨w.heap.size, 0, none⟩ = some (tv) := Lib.cell_of_heap HNA.out 0
 have c1 : wA.cell? ⟨w.heap.size, 1, none⟩ = some (ov) := Lib.cell_of_heap HNA.out 1
 have c2 : wA.cell? ⟨w.heap.size, 2, none⟩ = some (sv) := Lib.cell_of_heap HNA.out 2
 have c3 : wA.cell? ⟨w.heap.size, 3, none⟩ = some (.slice pa np pc) := Lib.cell_of_heap HNA.out 3
 have c4 : wA.cell? ⟨w.heap.size, 4, none⟩ = some (.int .i64 G.start) := Lib.cell_of_heap HNA.out 4
 have KA := hid (All_any (HGr.out.below HBA.out) (HT.out.on (HBA.out.mono hBt)) (Nat.le_trans hBt HBA.out.size))
 clear hbA nA hkv hnv hval hok hI hat hkl hnl HAV
 go_wp2_with fail
 refine KA.out.mono ?_
 rintro e w5 hap
 obtain ⟨hb5, A, lb, lf, lc, rfl, hL, hK⟩ := all_ok HVAL.out HOK.out hap
 have HB5 := hid (HBA.out.trans (hb5.mono HBA.out.size))
 have HN5 := hid ((hb5.block _ (Array.getElem?_eq_some_iff.1 HNA.out).1).trans HNA.out)
 have HA5 := hid ((hb5.block _ (Array.getElem?_eq_some_iff.1 HAA.out).1).trans HAA.out)
 have HAV5 := hid (HAVA.out.below hb5)
 have HL := hid hL
 have HKA := hid hK
 clear hap hb5 hL hK KA c0 c1 c2 c3 c4 eA
 go_wp2_with fail
 go_loopw [9, 10, 11, 12, 13, 14, 15, 16, 17, 18] (fun t9 t10 t11 t12 t13 t14 t15 t16 t17 t18 wr => ∃ i : Nat, i ≤ n ∧ t9 = .int .i64 (i : Int) ∧ Hid (Below w5.heap.size w5 wr)) (fun t9 _ _ _ _ _ _ _ _ _ _ => n - (RowKit.intOf t9).toNat)
 case atStart => exact ⟨0, Nat.zero_le _, rfl, hid (Below.refl _ _)⟩
 case round =>
  obtain ⟨i, hin, rfl, HR⟩ := hrel
  by_cases hli : i < n
  ·have m1 : (i : Int) < (n : Int) := by omega
   have m0 : (0 : Int) ≤ (i : Int) := by omega
   obtain ⟨io, ic, ao, ac, q0, q1, -, -, hq⟩ := HKA.out i hli
   obtain ⟨N, hN⟩ : ∃ N, ((cxB G n (E0 G) (F0 G)).C i).length = N := ⟨_, rfl⟩
   have HN := hid hN
   have hNle : N ≤ 1573 := by rw [← hN]; exact HCL.out i
   rw [hN] at q0 q1
   have HQ0 := hid q0
   have HQ1 := hid q1
   have HQ := hid hq
   clear hN hq q0 q1
   go_wp2_with fail
   go_loopw [10, 11, 12, 13, 14, 15, 16, 17, 18] (fun t10 t11 t12 t13 t14 t15 t16 t17 t18 wr => ∃ k : Nat, k ≤ N ∧ t10 = .int .i64 (k : Int) ∧ Hid (Below w5.heap.size w5 wr)) (fun t10 _ _ _ _ _ _ _ _ _ => N - (RowKit.intOf t10).toNat)
   case atStart => exact ⟨0, Nat.zero_le _, rfl, HR⟩
   case round =>
    clear HR
    obtain ⟨k, hkN, rfl, HR⟩ := hrel
    have q0 := cell_below HR.out HQ0.out
    by_cases hlt : k < N
    ·have j1 : (k : Int) < (N : Int) := by omega
     have j0 : (0 : Int) ≤ (k : Int) := by omega
     obtain ⟨⟨xp, xd⟩, hx⟩ : ∃ x, ((cxB G n (E0 G) (F0 G)).C i)[k]? = some x := ⟨_, List.getElem?_eq_getElem (by rw [HN.out]; exact hlt)⟩
     have hth := X14.there_iff.1 ((S13.X15.mem_C.1 (List.mem_of_getElem? hx)).there)
     obtain ⟨d, rfl⟩ : ∃ d : Nat, xd = (d : Int) := ⟨xd.toNat, by have h : (0 : Int) ≤ xd := hth.2.2.1; omega⟩
     have hd12 : d ≤ 12 := by
      have h1 := X14.right_le HVAL.out hth.1 hth.2.1
      have h2 : ((d : Nat) : Int) ≤ ((rightX G xp).length : Int) := hth.2.2.2
      have h3 : (rightX G xp).length ≤ 12 := h1
      omega
     have hp0 : -1 ≤ xp := hth.1
     have hp1 : xp < (G.prods.length : Int) := hth.2.1
     obtain ⟨ib, jf, ab, af, rfl, x0, x1, rfl, x2⟩ := HQ.out k _ hx
     have HX := hid (List.mem_of_getElem? hx)
     have r0 := cell_below HR.out x0
     have r1 := cell_below HR.out x1
     have HX2 := hid x2
     clear hx x0 x1 x2
     obtain ⟨wa, ea⟩ : ∃ z, wr.alloc (.cells #[.int .i64 0, .int .i64 0] 60) = z := ⟨_, rfl⟩
     have na : wa.heap[wr.heap.size]? = some (.cells #[.int .i64 0, .int .i64 0] 60 (0, 0)) := by rw [← ea]; exact new_block _ _
     have hba : Below wr.heap.size wr wa := by rw [← ea]; exact (Below.refl _ _).alloc (Nat.le_refl _) _
     have vc0 : wa.cell? ⟨wr.heap.size, 0, none⟩ = some (.int .i64 0) := Lib.cell_of_heap na 0
     have vf0 := Lib.frozen_of_heap na 0
     obtain ⟨u1, ve0⟩ : ∃ z, wa.setCell ⟨wr.heap.size, 0, none⟩ (.int .i64 xp) = z := ⟨_, rfl⟩
     have n1 : u1.heap[wr.heap.size]? = some (.cells #[.int .i64 xp, .int .i64 0] 60 (0, 0)) := by rw [← ve0]; exact heap_setCell_same _ _ 0 _ 60 _ na
     have vc1 : u1.cell? ⟨wr.heap.size, 1, none⟩ = some (.int .i64 0) := Lib.cell_of_heap n1 1
     have vf1 := Lib.frozen_of_heap n1 1
     obtain ⟨u2, ve1⟩ : ∃ z, u1.setCell ⟨wr.heap.size, 1, none⟩ (.int .i64 (d : Int)) = z := ⟨_, rfl⟩
     have n2 : u2.heap[wr.heap.size]? = some (.cells #[.int .i64 xp, .int .i64 (d : Int)] 60 (0, 0)) := by rw [← ve1]; exact heap_setCell_same _ _ 1 _ 60 _ n1
     have hb6 : Below wr.heap.size wr u2 := by
      rw [← ve1, ← ve0]
      exact (hba.setCell (Nat.le_refl _) _).setCell (Nat.le_refl _) _
     have HU := hid (HR.out.trans (hb6.mono HR.out.size))
     have HX0 := hid n2
     have HNU := hid ((HU.out.block _ (Array.getElem?_eq_some_iff.1 HN5.out).1).trans HN5.out)
     have c0 : u2.cell? ⟨w.heap.size, 0, none⟩ = some (tv) := Lib.cell_of_heap HNU.out 0
     have c1 : u2.cell? ⟨w.heap.size, 1, none⟩ = some (ov) := Lib.cell_of_heap HNU.out 1
     have c2 : u2.cell? ⟨w.heap.size, 2, none⟩ = some (sv) := Lib.cell_of_heap HNU.out 2
     have c3 : u2.cell? ⟨w.heap.size, 3, none⟩ = some (.slice pa np pc) := Lib.cell_of_heap HNU.out 3
     have c4 : u2.cell? ⟨w.heap.size, 4, none⟩ = some (.int .i64 G.start) := Lib.cell_of_heap HNU.out 4
     have y0 : u2.cell? ⟨wr.heap.size, 0, none⟩ = some (.int .i64 xp) := Lib.cell_of_heap n2 0
     have y1 : u2.cell? ⟨wr.heap.size, 1, none⟩ = some (.int .i64 (d : Int)) := Lib.cell_of_heap n2 1
     have KH := Behind_any (HGr.out.below (HB5.out.trans (HU.out.mono HB5.out.size))) (xp, (d : Int))
     unfold BehVP itV at KH
     have KH := hid KH
     clear na n1 n2 hba hb6
     go_wp2_with fail
     refine KH.out.mono ?_
     rintro e w6 ⟨rfl, hb6⟩
     have H6 := hid (HU.out.trans (hb6.mono HU.out.size))
     have HX6 := hid ((hb6.block _ (Array.getElem?_eq_some_iff.1 HX0.out).1).trans HX0.out)
     clear vc0 vf0 vc1 vf1 ve0 ve1 ea r0 r1 KH hb6 c0 c1 c2 c3 c4 y0 y1 q0
     clear hth
     have hbe : behV G (xp, (d : Int)) = behX G (xp, (d : Int)) := by unfold behV; rw [if_pos HVAL.out]
     rw [hbe]
     cases hbx : behX G (xp, (d : Int)) with
     | none =>
      simp only [Option.getD_none, Option.isSome_none]
      go_wp2_with fail
      refine ⟨⟨k + 1, by omega, by go_num, H6⟩, ?_⟩
      simp [RowKit.intOf]
      omega
     | some s =>
      simp only [Option.getD_some, Option.isSome_some]
      have hr1 : (rightX G xp)[d]? = some s := by
       unfold X14.behX at hbx
       rw [if_pos (X14.beh_there (by unfold X14.behX; exact hbx))] at hbx
       simpa using hbx
      have HR1 := hid hr1
      have hdl : d + 1 ≤ (rightX G xp).length := (List.getElem?_eq_some_iff.1 hr1).1
      obtain ⟨q, g1, g2, g3, g4, g5⟩ := HGB.out i (xp, (d : Int)) s hli HX.out hbx
      have HG1 := hid g1
      have HG2 := hid g2
      have HBX := hid hbx
      clear hr1 g1 g2 g3 g5 hbe hbx
      have HN6 := hid ((H6.out.block _ (Array.getElem?_eq_some_iff.1 HN5.out).1).trans HN5.out)
      have c0 : w6.cell? ⟨w.heap.size, 0, none⟩ = some (tv) := Lib.cell_of_heap HN6.out 0
      have c1 : w6.cell? ⟨w.heap.size, 1, none⟩ = some (ov) := Lib.cell_of_heap HN6.out 1
      have c2 : w6.cell? ⟨w.heap.size, 2, none⟩ = some (sv) := Lib.cell_of_heap HN6.out 2
      have c3 : w6.cell? ⟨w.heap.size, 3, none⟩ = some (.slice pa np pc) := Lib.cell_of_heap HN6.out 3
      have c4 : w6.cell? ⟨w.heap.size, 4, none⟩ = some (.int .i64 G.start) := Lib.cell_of_heap HN6.out 4
      have y0 : w6.cell? ⟨wr.heap.size, 0, none⟩ = some (.int .i64 xp) := Lib.cell_of_heap HX6.out 0
      have KR := hid (RRightC_any (HGr.out.below (HB5.out.trans (H6.out.mono HB5.out.size))) HVAL.out xp hp0 hp1)
      go_wp2_with fail
      refine KR.out.mono ?_
      rintro e w7 ⟨ro, rc, rfl, hrc, hri, hb7⟩
      have H7 := hid (H6.out.trans (hb7.mono H6.out.size))
      have HX7 := hid ((hb7.block _ (Array.getElem?_eq_some_iff.1 HX6.out).1).trans HX6.out)
      have HN7 := hid ((H7.out.block _ (Array.getElem?_eq_some_iff.1 HN5.out).1).trans HN5.out)
      have HA7 := hid ((H7.out.block _ (Array.getElem?_eq_some_iff.1 HA5.out).1).trans HA5.out)
      obtain ⟨rl, hrl⟩ : ∃ rl, (rightX G xp).length = rl := ⟨_, rfl⟩
      rw [hrl] at hrc hri hdl ⊢
      have HRL := hid hrl
      obtain ⟨rb, rof, rfl⟩ : ∃ rb rof, ro = some ⟨rb, rof, none⟩ := by
       obtain ⟨⟨a, c, e1, _, e2⟩, _⟩ := hri
       obtain ⟨b, off, e3, _⟩ := e2 (by omega)
       injection e1 with h1 h2 h3
       exact ⟨b, off, h1.trans e3⟩
      have HRI := hid hri
      have hsr := hri.2 s (List.mem_of_getElem? HR1.out)
      have KG := Go_any (HGr.out.below (HB5.out.trans (H7.out.mono HB5.out.size))) (HAV5.out.below H7.out) HNX.out (i : Int) s hsr.1 hsr.2
      rw [HG1.out] at KG
      have KG := hid KG
      clear KR hri hb7 c0 c1 c2 c3 c4 y0 hsr hrl
      have c0 : w7.cell? ⟨w.heap.size, 0, none⟩ = some (tv) := Lib.cell_of_heap HN7.out 0
      have c1 : w7.cell? ⟨w.heap.size, 1, none⟩ = some (ov) := Lib.cell_of_heap HN7.out 1
      have c2 : w7.cell? ⟨w.heap.size, 2, none⟩ = some (sv) := Lib.cell_of_heap HN7.out 2
      have c3 : w7.cell? ⟨w.heap.size, 3, none⟩ = some (.slice pa np pc) := Lib.cell_of_heap HN7.out 3
      have c4 : w7.cell? ⟨w.heap.size, 4, none⟩ = some (.int .i64 G.start) := Lib.cell_of_heap HN7.out 4
      have a0 : w7.cell? ⟨w4.heap.size, 0, none⟩ = some (.slice ko n kc) := Lib.cell_of_heap HA7.out 0
      have a1 : w7.cell? ⟨w4.heap.size, 1, none⟩ = some (.slice no n nc) := Lib.cell_of_heap HA7.out 1
      obtain ⟨io2, ic2, ao2, ac2, t0, t1, -, -, ht2⟩ := HKA.out q g4
      obtain ⟨N2, hN2⟩ : ∃ N2, ((cxB G n (E0 G) (F0 G)).C q).length = N2 := ⟨_, rfl⟩
      have hN2le : N2 ≤ 1573 := by rw [← hN2]; exact HCL.out q
      rw [hN2] at t0 t1
      have HN2 := hid hN2
      have HT0 := hid t0
      have HT1 := hid t1
      have HT2 := hid ht2
      have q1' : (q : Int) < (n : Int) := by omega
      have q0' : (0 : Int) ≤ (q : Int) := by omega
      clear hN2 t0 t1 ht2
      go_wp2_with fail
      refine KG.out.mono ?_
      rintro e w8 ⟨rfl, hb8⟩
      have H8 := hid (H7.out.trans (hb8.mono H7.out.size))
      have HX8 := hid ((hb8.block _ (Array.getElem?_eq_some_iff.1 HX7.out).1).trans HX7.out)
      have HRI8 := hid (HRI.out.mono hb8)
      have t0 := cell_below H8.out HT0.out
      have t1 := cell_below H8.out HT1.out
      obtain ⟨wB, eB⟩ : ∃ wB, w8.alloc (.cells #[.slice io2 N2 ic2, .slice ao2 N2 ac2] 48) = wB := ⟨_, rfl⟩
      have nB : wB.heap[w8.heap.size]? = some (.cells #[.slice io2 N2 ic2, .slice ao2 N2 ac2] 48 (0, 0)) := by rw [← eB]; exact new_block _ _
      have hbB : Below w8.heap.size w8 wB := by rw [← eB]; exact (Below.refl _ _).alloc (Nat.le_refl _) _
      have HB8 := hid (H8.out.trans (hbB.mono H8.out.size))
      have HNB := hid nB
      have HXB := hid ((hbB.block _ (Array.getElem?_eq_some_iff.1 HX8.out).1).trans HX8.out)
      have HRIB := hid (HRI8.out.mono hbB)
      clear KG hb8 c0 c1 c2 c3 c4 a0 a1 nB hbB
      go_wp2_with fail
      clear t0 t1 eB
      generalize hxb : wr.heap.size = xb at *
      clear hxb
      generalize w8.heap.size = tb at *
      go_loopw [16] (fun t16 wr => ∃ j : Nat, j ≤ N2 ∧ t16 = .int .i64 (j : Int) ∧ Hid (Below wB.heap.size wB wr)) (fun t16 _ => N2 - (RowKit.intOf t16).toNat)
      case atStart => exact ⟨0, Nat.zero_le _, rfl, hid (Below.refl _ _)⟩
      case round =>
       obtain ⟨j, hjN, rfl, HJ⟩ := hrel
       have nb0 : wr.cell? ⟨tb, 0, none⟩ = some (.slice io2 N2 ic2) := cell_below HJ.out (Lib.cell_of_heap HNB.out 0)
       by_cases hlj : j < N2
       ·have l1 : (j : Int) < (N2 : Int) := by omega
        have l0 : (0 : Int) ≤ (j : Int) := by omega
        obtain ⟨⟨yp, yd⟩, hy⟩ : ∃ y, ((cxB G n (E0 G) (F0 G)).C q)[j]? = some y := ⟨_, List.getElem?_eq_getElem (by rw [HN2.out]; exact hlj)⟩
        obtain ⟨ib2, jf2, ab2, af2, rfl, y0, y1, rfl, y2⟩ := HT2.out j _ hy
        have HYC := hid (List.mem_of_getElem? hy)
        have H5J := hid (HB8.out.trans (HJ.out.mono HB8.out.size))
        have Z0 := hid (show ∀ w', Below wr.heap.size wr w' → w'.cell? ⟨tb, 0, none⟩ = some (.slice (some ⟨ib2, jf2, none⟩) N2 ic2) from fun w' hC => cell_below hC (cell_below HJ.out (Lib.cell_of_heap HNB.out 0)))
        have Z1 := hid (show ∀ w', Below wr.heap.size wr w' → w'.cell? ⟨ib2, jf2 + j * 2, none⟩ = some (.int .i64 yp) from fun w' hC => cell_below hC (cell_below H5J.out y0))
        have Z2 := hid (show ∀ w', Below wr.heap.size wr w' → w'.cell? ⟨ib2, jf2 + j * 2 + 1, none⟩ = some (.int .i64 yd) from fun w' hC => cell_below hC (cell_below H5J.out y1))
        have Z3 := hid (show ∀ w', Below wr.heap.size wr w' → w'.cell? ⟨xb, 0, none⟩ = some (.int .i64 xp) from fun w' hC => cell_below hC (cell_below HJ.out (Lib.cell_of_heap HXB.out 0)))
        have Z4 := hid (show ∀ w', Below wr.heap.size wr w' → w'.cell? ⟨xb, 1, none⟩ = some (.int .i64 (d : Int)) from fun w' hC => cell_below hC (cell_below HJ.out (Lib.cell_of_heap HXB.out 1)))
        have Z5 := hid (show ∀ w', Below wr.heap.size wr w' → w'.cell? ⟨lb, lf + i * 2 + 1, none⟩ = some (.slice (some ⟨ab, af, none⟩) N ac) from fun w' hC => cell_below hC (cell_below H5J.out HQ1.out))
        have Z6 := hid (show ∀ w', Below wr.heap.size wr w' → w'.cell? ⟨ab, af + k, none⟩ = some (uv (A (i, (xp, (d : Int))))) from fun w' hC => cell_below hC (cell_below H5J.out HX2.out))
        have Z7 := hid (show ∀ w', Below wr.heap.size wr w' → w'.cell? ⟨tb, 1, none⟩ = some (.slice (some ⟨ab2, af2, none⟩) N2 ac2) from fun w' hC => cell_below hC (cell_below HJ.out (Lib.cell_of_heap HNB.out 1)))
        have Z8 := hid (show ∀ w', Below wr.heap.size wr w' → w'.cell? ⟨ab2, af2 + j, none⟩ = some (uv (A (q, (yp, yd)))) from fun w' hC => cell_below hC (cell_below H5J.out y2))
        clear hy y0 y1 y2
        have hw : IntKind.i64.wrap ((d : Int) + 1) = (d : Int) + 1 := wrap_small (by omega) (by omega)
        by_cases hyp : yp = xp
        case neg =>
         go_wp2_with fail
         clear nb0
         as_aux_lemma =>
          refine wp_region_below (by kernel_rfl) (by kernel_rfl) ?_
          with_reducible refine BigFrame.wpQuiet_want (by kernel_rfl) (fun K hK => ?_)
          apply Exists.intro
          refine ⟨fun w' hC => ?_, hK _ ?_⟩
          ·unfold Oper.quietAt
           go_simp
           first | with_reducible rfl | done
          clear hK K
          try simp only [Act.put, List.setIfInBounds_toArray, List.set_cons_zero, List.set_cons_succ, hw]
          with_reducible refine BigFrame.wpQuiet_want (by kernel_rfl) (fun K hK => ?_)
          apply Exists.intro
          refine ⟨fun w' hC => ?_, hK _ ?_⟩
          ·have f0' := Z0.out w' hC
           have f1' := Z1.out w' hC
           have f2' := Z2.out w' hC
           have f3' := Z3.out w' hC
           have f4' := Z4.out w' hC
           have f5' := Z5.out w' hC
           have f6' := Z6.out w' hC
           have f7' := Z7.out w' hC
           have f8' := Z8.out w' hC
           unfold Oper.quietAt
           go_simp
           first | with_reducible rfl | done
          clear hK K
          try simp only [Act.put, List.setIfInBounds_toArray, List.set_cons_zero, List.set_cons_succ, hw]
          iterate 2
           with_reducible refine BigFrame.wpQuiet_want (by kernel_rfl) (fun K hK => ?_)
           apply Exists.intro
           refine ⟨fun w' hC => ?_, hK _ ?_⟩
           ·unfold Oper.quietAt
            go_simp
            first | with_reducible rfl | done
           clear hK K
           try simp only [Act.put, List.setIfInBounds_toArray, List.set_cons_zero, List.set_cons_succ, hw]
          with_reducible refine BigFrame.wpQuiet_want (by kernel_rfl) (fun K hK => ?_)
          apply Exists.intro
          refine ⟨fun w' hC => ?_, hK _ ?_⟩
          ·have f0' := Z0.out w' hC
           have f1' := Z1.out w' hC
           have f2' := Z2.out w' hC
           have f3' := Z3.out w' hC
           have f4' := Z4.out w' hC
           have f5' := Z5.out w' hC
           have f6' := Z6.out w' hC
           have f7' := Z7.out w' hC
           have f8' := Z8.out w' hC
           unfold Oper.quietAt
           go_simp
           first | with_reducible rfl | done
          clear hK K
          try simp only [Act.put, List.setIfInBounds_toArray, List.set_cons_zero, List.set_cons_succ, hw]
          with_reducible refine BigFrame.wpQuiet_want (by kernel_rfl) (fun K hK => ?_)
          apply Exists.intro
          refine ⟨fun w' hC => ?_, hK _ ?_⟩
          ·unfold Oper.quietAt
           go_simp
           first | with_reducible rfl | done
          clear hK K
          try simp only [Act.put, List.setIfInBounds_toArray, List.set_cons_zero, List.set_cons_succ, hw]
          with_reducible refine BigFrame.wpQuiet_want (by kernel_rfl) (fun K hK => ?_)
          apply Exists.intro
          refine ⟨fun w' hC => ?_, hK _ ?_⟩
          ·have f0' := Z0.out w' hC
           have f1' := Z1.out w' hC
           have f2' := Z2.out w' hC
           have f3' := Z3.out w' hC
           have f4' := Z4.out w' hC
           have f5' := Z5.out w' hC
           have f6' := Z6.out w' hC
           have f7' := Z7.out w' hC
           have f8' := Z8.out w' hC
           unfold Oper.quietAt
           go_simp
           first | with_reducible rfl | done
          clear hK K
          try simp only [Act.put, List.setIfInBounds_toArray, List.set_cons_zero, List.set_cons_succ, hw]
          with_reducible refine BigFrame.wpQuiet_want (by kernel_rfl) (fun K hK => ?_)
          apply Exists.intro
          refine ⟨fun w' hC => ?_, hK _ ?_⟩
          ·unfold Oper.quietAt
           go_simp
           first | with_reducible rfl | done
          clear hK K
          try simp only [Act.put, List.setIfInBounds_toArray, List.set_cons_zero, List.set_cons_succ, hw]
          with_reducible refine BigFrame.wpQuiet_want (by kernel_rfl) (fun K hK => ?_)
          apply Exists.intro
          refine ⟨fun w' hC => ?_, hK _ ?_⟩
          ·have f0' := Z0.out w' hC
           have f1' := Z1.out w' hC
           have f2' := Z2.out w' hC
           have f3' := Z3.out w' hC
           have f4' := Z4.out w' hC
           have f5' := Z5.out w' hC
           have f6' := Z6.out w' hC
           have f7' := Z7.out w' hC
           have f8' := Z8.out w' hC
           unfold Oper.quietAt
           go_simp
           first | with_reducible rfl | done
          clear hK K
          try simp only [Act.put, List.setIfInBounds_toArray, List.set_cons_zero, List.set_cons_succ, hw]
          iterate 4
           with_reducible refine BigFrame.wpQuiet_want (by kernel_rfl) (fun K hK => ?_)
           apply Exists.intro
           refine ⟨fun w' hC => ?_, hK _ ?_⟩
           ·unfold Oper.quietAt
            go_simp
            first | with_reducible rfl | done
           clear hK K
           try simp only [Act.put, List.setIfInBounds_toArray, List.set_cons_zero, List.set_cons_succ, hw]
          iterate 15
           with_reducible refine BigFrame.wpQuiet_skip (by kernel_rfl) ?_
           try simp only [Act.put, List.setIfInBounds_toArray, List.set_cons_zero, List.set_cons_succ, hw]
          with_reducible refine BigFrame.wpQuiet_want (by kernel_rfl) (fun K hK => ?_)
          apply Exists.intro
          refine ⟨fun w' hC => ?_, hK _ ?_⟩
          ·unfold Oper.quietAt
           go_simp
           first | with_reducible rfl | done
          clear hK K
          try simp only [Act.put, List.setIfInBounds_toArray, List.set_cons_zero, List.set_cons_succ, hw]
          refine wpQuiet_nil ?_
          intro w9 hb9
          have HF9 := hid (HJ.out.trans (hb9.mono HJ.out.size))
          clear hb9 hw
          go_wp2_with fail
          refine ⟨⟨j + 1, by omega, by go_num, HF9⟩, ?_⟩
          simp [RowKit.intOf]
          omega
        subst hyp
        by_cases hyd : yd = (d : Int) + 1
        case neg =>
         go_wp2_with fail
         clear nb0
         as_aux_lemma =>
          refine wp_region_below (by kernel_rfl) (by kernel_rfl) ?_
          with_reducible refine BigFrame.wpQuiet_want (by kernel_rfl) (fun K hK => ?_)
          apply Exists.intro
          refine ⟨fun w' hC => ?_, hK _ ?_⟩
          ·unfold Oper.quietAt
           go_simp
           first | with_reducible rfl | done
          clear hK K
          try simp only [Act.put, List.setIfInBounds_toArray, List.set_cons_zero, List.set_cons_succ, hw]
          with_reducible refine BigFrame.wpQuiet_want (by kernel_rfl) (fun K hK => ?_)
          apply Exists.intro
          refine ⟨fun w' hC => ?_, hK _ ?_⟩
          ·have f0' := Z0.out w' hC
           have f1' := Z1.out w' hC
           have f2' := Z2.out w' hC
           have f3' := Z3.out w' hC
           have f4' := Z4.out w' hC
           have f5' := Z5.out w' hC
           have f6' := Z6.out w' hC
           have f7' := Z7.out w' hC
           have f8' := Z8.out w' hC
           unfold Oper.quietAt
           go_simp
           first | with_reducible rfl | done
          clear hK K
          try simp only [Act.put, List.setIfInBounds_toArray, List.set_cons_zero, List.set_cons_succ, hw]
          iterate 2
           with_reducible refine BigFrame.wpQuiet_want (by kernel_rfl) (fun K hK => ?_)
           apply Exists.intro
           refine ⟨fun w' hC => ?_, hK _ ?_⟩
           ·unfold Oper.quietAt
            go_simp
            first | with_reducible rfl | done
           clear hK K
           try simp only [Act.put, List.setIfInBounds_toArray, List.set_cons_zero, List.set_cons_succ, hw]
          with_reducible refine BigFrame.wpQuiet_want (by kernel_rfl) (fun K hK => ?_)
          apply Exists.intro
          refine ⟨fun w' hC => ?_, hK _ ?_⟩
          ·have f0' := Z0.out w' hC
           have f1' := Z1.out w' hC
           have f2' := Z2.out w' hC
           have f3' := Z3.out w' hC
           have f4' := Z4.out w' hC
           have f5' := Z5.out w' hC
           have f6' := Z6.out w' hC
           have f7' := Z7.out w' hC
           have f8' := Z8.out w' hC
           unfold Oper.quietAt
           go_simp
           first | with_reducible rfl | done
          clear hK K
          try simp only [Act.put, List.setIfInBounds_toArray, List.set_cons_zero, List.set_cons_succ, hw]
          with_reducible refine BigFrame.wpQuiet_want (by kernel_rfl) (fun K hK => ?_)
          apply Exists.intro
          refine ⟨fun w' hC => ?_, hK _ ?_⟩
          ·unfold Oper.quietAt
           go_simp
           first | with_reducible rfl | done
          clear hK K
          try simp only [Act.put, List.setIfInBounds_toArray, List.set_cons_zero, List.set_cons_succ, hw]
          with_reducible refine BigFrame.wpQuiet_want (by kernel_rfl) (fun K hK => ?_)
          apply Exists.intro
          refine ⟨fun w' hC => ?_, hK _ ?_⟩
          ·have f0' := Z0.out w' hC
           have f1' := Z1.out w' hC
           have f2' := Z2.out w' hC
           have f3' := Z3.out w' hC
           have f4' := Z4.out w' hC
           have f5' := Z5.out w' hC
           have f6' := Z6.out w' hC
           have f7' := Z7.out w' hC
           have f8' := Z8.out w' hC
           unfold Oper.quietAt
           go_simp
           first | with_reducible rfl | done
          clear hK K
          try simp only [Act.put, List.setIfInBounds_toArray, List.set_cons_zero, List.set_cons_succ, hw]
          with_reducible refine BigFrame.wpQuiet_want (by kernel_rfl) (fun K hK => ?_)
          apply Exists.intro
          refine ⟨fun w' hC => ?_, hK _ ?_⟩
          ·unfold Oper.quietAt
           go_simp
           first | with_reducible rfl | done
          clear hK K
          try simp only [Act.put, List.setIfInBounds_toArray, List.set_cons_zero, List.set_cons_succ, hw]
          with_reducible refine BigFrame.wpQuiet_want (by kernel_rfl) (fun K hK => ?_)
          apply Exists.intro
          refine ⟨fun w' hC => ?_, hK _ ?_⟩
          ·have f0' := Z0.out w' hC
           have f1' := Z1.out w' hC
           have f2' := Z2.out w' hC
           have f3' := Z3.out w' hC
           have f4' := Z4.out w' hC
           have f5' := Z5.out w' hC
           have f6' := Z6.out w' hC
           have f7' := Z7.out w' hC
           have f8' := Z8.out w' hC
           unfold Oper.quietAt
           go_simp
           first | with_reducible rfl | done
          clear hK K
          try simp only [Act.put, List.setIfInBounds_toArray, List.set_cons_zero, List.set_cons_succ, hw]
          iterate 4
           with_reducible refine BigFrame.wpQuiet_want (by kernel_rfl) (fun K hK => ?_)
           apply Exists.intro
           refine ⟨fun w' hC => ?_, hK _ ?_⟩
           ·unfold Oper.quietAt
            go_simp
            first | with_reducible rfl | done
           clear hK K
           try simp only [Act.put, List.setIfInBounds_toArray, List.set_cons_zero, List.set_cons_succ, hw]
          iterate 15
           with_reducible refine BigFrame.wpQuiet_skip (by kernel_rfl) ?_
           try simp only [Act.put, List.setIfInBounds_toArray, List.set_cons_zero, List.set_cons_succ, hw]
          with_reducible refine BigFrame.wpQuiet_want (by kernel_rfl) (fun K hK => ?_)
          apply Exists.intro
          refine ⟨fun w' hC => ?_, hK _ ?_⟩
          ·unfold Oper.quietAt
           go_simp
           first | with_reducible rfl | done
          clear hK K
          try simp only [Act.put, List.setIfInBounds_toArray, List.set_cons_zero, List.set_cons_succ, hw]
          refine wpQuiet_nil ?_
          intro w9 hb9
          have HF9 := hid (HJ.out.trans (hb9.mono HJ.out.size))
          clear hb9 hw
          go_wp2_with fail
          refine ⟨⟨j + 1, by omega, by go_num, HF9⟩, ?_⟩
          simp [RowKit.intOf]
          omega
        subst hyd
        have hsub := HL.out.goto_ hli HX.out HBX.out
        rw [HG2.out] at hsub
        have hlo := HL.out.low (i, (yp, (d : Int)))
        have hlo2 := HL.out.low (q, (yp, (d : Int) + 1))
        have hin2 : S13.inN (A (i, (yp, (d : Int)))) (A (q, (yp, (d : Int) + 1))) = true := decide_eq_true ((S13.lessN_zero_iff hlo).2 fun j _ hj => S13.sub_iff.1 hsub j hj)
        have KH := hid (show ∀ w', Below wr.heap.size wr w' → Calls Tryz.prog 28 #[uv (A (i, (yp, (d : Int)))), uv (A (q, (yp, (d : Int) + 1)))] w' fun e w'' => e = .returned (.bool true) ∧ Below w'.heap.size w' w'' from fun w' hC => (S13.In_any _ _ hlo hlo2 w').mono fun e w'' ⟨h1, h2⟩ => ⟨by rw [h1, hin2], by rw [← h2]; exact Below.refl _ _⟩)
        obtain ⟨av, hav⟩ : ∃ av, A (i, (yp, (d : Int))) = av := ⟨_, rfl⟩
        obtain ⟨lv, hlv⟩ : ∃ lv, A (q, (yp, (d : Int) + 1)) = lv := ⟨_, rfl⟩
        rw [hav] at Z6 KH
        rw [hlv] at Z8 KH
        clear hsub hlo hlo2 hin2 hav hlv
        go_wp2_with fail
        clear nb0
        as_aux_lemma =>
         refine wp_region_below (by kernel_rfl) (by kernel_rfl) ?_
         with_reducible refine BigFrame.wpQuiet_want (by kernel_rfl) (fun K hK => ?_)
         apply Exists.intro
         refine ⟨fun w' hC => ?_, hK _ ?_⟩
         ·unfold Oper.quietAt
          go_simp
          first | with_reducible rfl | done
         clear hK K
         try simp only [Act.put, List.setIfInBounds_toArray, List.set_cons_zero, List.set_cons_succ, hw]
         with_reducible refine BigFrame.wpQuiet_want (by kernel_rfl) (fun K hK => ?_)
         apply Exists.intro
         refine ⟨fun w' hC => ?_, hK _ ?_⟩
         ·have f0' := Z0.out w' hC
          have f1' := Z1.out w' hC
          have f2' := Z2.out w' hC
          have f3' := Z3.out w' hC
          have f4' := Z4.out w' hC
          have f5' := Z5.out w' hC
          have f6' := Z6.out w' hC
          have f7' := Z7.out w' hC
          have f8' := Z8.out w' hC
          unfold Oper.quietAt
          go_simp
          first | with_reducible rfl | done
         clear hK K
         try simp only [Act.put, List.setIfInBounds_toArray, List.set_cons_zero, List.set_cons_succ, hw]
         iterate 2
          with_reducible refine BigFrame.wpQuiet_want (by kernel_rfl) (fun K hK => ?_)
          apply Exists.intro
          refine ⟨fun w' hC => ?_, hK _ ?_⟩
          ·unfold Oper.quietAt
           go_simp
           first | with_reducible rfl | done
          clear hK K
          try simp only [Act.put, List.setIfInBounds_toArray, List.set_cons_zero, List.set_cons_succ, hw]
         with_reducible refine BigFrame.wpQuiet_want (by kernel_rfl) (fun K hK => ?_)
         apply Exists.intro
         refine ⟨fun w' hC => ?_, hK _ ?_⟩
         ·have f0' := Z0.out w' hC
          have f1' := Z1.out w' hC
          have f2' := Z2.out w' hC
          have f3' := Z3.out w' hC
          have f4' := Z4.out w' hC
          have f5' := Z5.out w' hC
          have f6' := Z6.out w' hC
          have f7' := Z7.out w' hC
          have f8' := Z8.out w' hC
          unfold Oper.quietAt
          go_simp
          first | with_reducible rfl | done
         clear hK K
         try simp only [Act.put, List.setIfInBounds_toArray, List.set_cons_zero, List.set_cons_succ, hw]
         with_reducible refine BigFrame.wpQuiet_want (by kernel_rfl) (fun K hK => ?_)
         apply Exists.intro
         refine ⟨fun w' hC => ?_, hK _ ?_⟩
         ·unfold Oper.quietAt
          go_simp
          first | with_reducible rfl | done
         clear hK K
         try simp only [Act.put, List.setIfInBounds_toArray, List.set_cons_zero, List.set_cons_succ, hw]
         with_reducible refine BigFrame.wpQuiet_want (by kernel_rfl) (fun K hK => ?_)
         apply Exists.intro
         refine ⟨fun w' hC => ?_, hK _ ?_⟩
         ·have f0' := Z0.out w' hC
          have f1' := Z1.out w' hC
          have f2' := Z2.out w' hC
          have f3' := Z3.out w' hC
          have f4' := Z4.out w' hC
          have f5' := Z5.out w' hC
          have f6' := Z6.out w' hC
          have f7' := Z7.out w' hC
          have f8' := Z8.out w' hC
          unfold Oper.quietAt
          go_simp
          first | with_reducible rfl | done
         clear hK K
         try simp only [Act.put, List.setIfInBounds_toArray, List.set_cons_zero, List.set_cons_succ, hw]
         with_reducible refine BigFrame.wpQuiet_want (by kernel_rfl) (fun K hK => ?_)
         apply Exists.intro
         refine ⟨fun w' hC => ?_, hK _ ?_⟩
         ·unfold Oper.quietAt
          go_simp
          first | with_reducible rfl | done
         clear hK K
         try simp only [Act.put, List.setIfInBounds_toArray, List.set_cons_zero, List.set_cons_succ, hw]
         with_reducible refine BigFrame.wpQuiet_want (by kernel_rfl) (fun K hK => ?_)
         apply Exists.intro
         refine ⟨fun w' hC => ?_, hK _ ?_⟩
         ·have f0' := Z0.out w' hC
          have f1' := Z1.out w' hC
          have f2' := Z2.out w' hC
          have f3' := Z3.out w' hC
          have f4' := Z4.out w' hC
          have f5' := Z5.out w' hC
          have f6' := Z6.out w' hC
          have f7' := Z7.out w' hC
          have f8' := Z8.out w' hC
          unfold Oper.quietAt
          go_simp
          first | with_reducible rfl | done
         clear hK K
         try simp only [Act.put, List.setIfInBounds_toArray, List.set_cons_zero, List.set_cons_succ, hw]
         iterate 8
          with_reducible refine BigFrame.wpQuiet_want (by kernel_rfl) (fun K hK => ?_)
          apply Exists.intro
          refine ⟨fun w' hC => ?_, hK _ ?_⟩
          ·unfold Oper.quietAt
           go_simp
           first | with_reducible rfl | done
          clear hK K
          try simp only [Act.put, List.setIfInBounds_toArray, List.set_cons_zero, List.set_cons_succ, hw]
         with_reducible refine BigFrame.wpQuiet_want (by kernel_rfl) (fun K hK => ?_)
         apply Exists.intro
         refine ⟨fun w' hC => ?_, hK _ ?_⟩
         ·have f0' := Z0.out w' hC
          have f1' := Z1.out w' hC
          have f2' := Z2.out w' hC
          have f3' := Z3.out w' hC
          have f4' := Z4.out w' hC
          have f5' := Z5.out w' hC
          have f6' := Z6.out w' hC
          have f7' := Z7.out w' hC
          have f8' := Z8.out w' hC
          unfold Oper.quietAt
          go_simp
          first | with_reducible rfl | done
         clear hK K
         try simp only [Act.put, List.setIfInBounds_toArray, List.set_cons_zero, List.set_cons_succ, hw]
         iterate 2
          with_reducible refine BigFrame.wpQuiet_want (by kernel_rfl) (fun K hK => ?_)
          apply Exists.intro
          refine ⟨fun w' hC => ?_, hK _ ?_⟩
          ·unfold Oper.quietAt
           go_simp
           first | with_reducible rfl | done
          clear hK K
          try simp only [Act.put, List.setIfInBounds_toArray, List.set_cons_zero, List.set_cons_succ, hw]
         with_reducible refine BigFrame.wpQuiet_want (by kernel_rfl) (fun K hK => ?_)
         apply Exists.intro
         refine ⟨fun w' hC => ?_, hK _ ?_⟩
         ·have f0' := Z0.out w' hC
          have f1' := Z1.out w' hC
          have f2' := Z2.out w' hC
          have f3' := Z3.out w' hC
          have f4' := Z4.out w' hC
          have f5' := Z5.out w' hC
          have f6' := Z6.out w' hC
          have f7' := Z7.out w' hC
          have f8' := Z8.out w' hC
          unfold Oper.quietAt
          go_simp
          first | with_reducible rfl | done
         clear hK K
         try simp only [Act.put, List.setIfInBounds_toArray, List.set_cons_zero, List.set_cons_succ, hw]
         with_reducible refine BigFrame.wpQuiet_want (by kernel_rfl) (fun K hK => ?_)
         apply Exists.intro
         refine ⟨fun w' hC => ?_, hK _ ?_⟩
         ·unfold Oper.quietAt
          go_simp
          first | with_reducible rfl | done
         clear hK K
         try simp only [Act.put, List.setIfInBounds_toArray, List.set_cons_zero, List.set_cons_succ, hw]
         with_reducible refine BigFrame.wpQuiet_want (by kernel_rfl) (fun K hK => ?_)
         apply Exists.intro
         refine ⟨fun w' hC => ?_, hK _ ?_⟩
         ·have f0' := Z0.out w' hC
          have f1' := Z1.out w' hC
          have f2' := Z2.out w' hC
          have f3' := Z3.out w' hC
          have f4' := Z4.out w' hC
          have f5' := Z5.out w' hC
          have f6' := Z6.out w' hC
          have f7' := Z7.out w' hC
          have f8' := Z8.out w' hC
          unfold Oper.quietAt
          go_simp
          first | with_reducible rfl | done
         clear hK K
         try simp only [Act.put, List.setIfInBounds_toArray, List.set_cons_zero, List.set_cons_succ, hw]
         iterate 2
          with_reducible refine BigFrame.wpQuiet_want (by kernel_rfl) (fun K hK => ?_)
          apply Exists.intro
          refine ⟨fun w' hC => ?_, hK _ ?_⟩
          ·unfold Oper.quietAt
           go_simp
           first | with_reducible rfl | done
          clear hK K
          try simp only [Act.put, List.setIfInBounds_toArray, List.set_cons_zero, List.set_cons_succ, hw]
         with_reducible refine BigFrame.wpQuiet_want (by kernel_rfl) (fun K hK => ?_)
         apply Exists.intro
         refine ⟨fun w' hC => ?_, hK _ ?_⟩
         ·have f0' := Z0.out w' hC
          have f1' := Z1.out w' hC
          have f2' := Z2.out w' hC
          have f3' := Z3.out w' hC
          have f4' := Z4.out w' hC
          have f5' := Z5.out w' hC
          have f6' := Z6.out w' hC
          have f7' := Z7.out w' hC
          have f8' := Z8.out w' hC
          unfold Oper.quietAt
          go_simp
          first | with_reducible rfl | done
         clear hK K
         try simp only [Act.put, List.setIfInBounds_toArray, List.set_cons_zero, List.set_cons_succ, hw]
         with_reducible refine BigFrame.wpQuiet_want (by kernel_rfl) (fun K hK => ?_)
         apply Exists.intro
         refine ⟨fun w' hC => ?_, hK _ ?_⟩
         ·unfold Oper.quietAt
          go_simp
          first
            | with_reducible exact below_call hC (Nat.le_refl _) (KH.out w' hC)
         clear hK K
         try simp only [Act.put, List.setIfInBounds_toArray, List.set_cons_zero, List.set_cons_succ, hw]
         iterate 2
          with_reducible refine BigFrame.wpQuiet_want (by kernel_rfl) (fun K hK => ?_)
          apply Exists.intro
          refine ⟨fun w' hC => ?_, hK _ ?_⟩
          ·unfold Oper.quietAt
           go_simp
           first | with_reducible rfl | done
          clear hK K
          try simp only [Act.put, List.setIfInBounds_toArray, List.set_cons_zero, List.set_cons_succ, hw]
         refine wpQuiet_nil ?_
         intro w9 hb9
         have HF9 := hid (HJ.out.trans (hb9.mono HJ.out.size))
         clear hb9 hw
         go_wp2_with fail
         refine ⟨⟨j + 1, by omega, by go_num, HF9⟩, ?_⟩
         simp [RowKit.intOf]
         omega
       ·have l1 : ¬ (j : Int) < (N2 : Int) := by omega
        go_wp2_with fail
        clear nb0 l1 hjN hlj
        have HB9 := hid (HB8.out.trans (HJ.out.mono HB8.out.size))
        have HJ9 := HJ
        clear HJ
        go_loopw [17, 18] (fun t17 t18 wr => ∃ y : Nat, y ≤ N ∧ t17 = .int .i64 (y : Int) ∧ Hid (Below wB.heap.size wB wr)) (fun t17 _ _ => N - (RowKit.intOf t17).toNat)
        case atStart => exact ⟨0, Nat.zero_le _, rfl, HJ9⟩
        case round =>
         clear HJ9 HB9
         obtain ⟨y, hyN, rfl, HJ⟩ := hrel
         have H5J := hid (HB8.out.trans (HJ.out.mono HB8.out.size))
         have q0 := cell_below H5J.out HQ0.out
         by_cases hly : y < N
         case neg =>
          have l1 : ¬ (y : Int) < (N : Int) := by omega
          go_wp2_with fail
          refine ⟨⟨k + 1, by omega, by go_num, H5J⟩, ?_⟩
          simp [RowKit.intOf]
          omega
         have l1 : (y : Int) < (N : Int) := by omega
         have l0 : (0 : Int) ≤ (y : Int) := by omega
         by_cases hs : s < 0
         case neg =>
          have z0 : decide (s < 0) = false := decide_eq_false hs
          go_wp2_with fail
          refine ⟨⟨k + 1, by omega, by go_num, H5J⟩, ?_⟩
          simp [RowKit.intOf]
          omega
         have z0 : decide (s < 0) = true := decide_eq_true hs
         obtain ⟨⟨yp, yd⟩, hy⟩ : ∃ x, ((cxB G n (E0 G) (F0 G)).C i)[y]? = some x := ⟨_, List.getElem?_eq_getElem (by rw [HN.out]; exact hly)⟩
         obtain ⟨ib2, jf2, ab2, af2, hio, y0, y1, hao, y2⟩ := HQ.out y _ hy
         have hyt := X14.there_iff.1 ((S13.X15.mem_C.1 (List.mem_of_getElem? hy)).there)
         have hyp1 : yp < (G.prods.length : Int) := hyt.2.1
         injection hio with hio
         injection hio with hi1 hi2
         subst hi1
         subst hi2
         injection hao with hao
         injection hao with ha1 ha2
         subst ha1
         subst ha2
         have r0 := cell_below H5J.out y0
         have r1 := cell_below H5J.out y1
         have HY2 := hid y2
         clear hy y0 y1 y2 hyt
         obtain ⟨wa, ea⟩ : ∃ z, wr.alloc (.cells #[.int .i64 0, .int .i64 0] 60) = z := ⟨_, rfl⟩
         have na : wa.heap[wr.heap.size]? = some (.cells #[.int .i64 0, .int .i64 0] 60 (0, 0)) := by rw [← ea]; exact new_block _ _
         have hba : Below wr.heap.size wr wa := by rw [← ea]; exact (Below.refl _ _).alloc (Nat.le_refl _) _
         have vc0 : wa.cell? ⟨wr.heap.size, 0, none⟩ = some (.int .i64 0) := Lib.cell_of_heap na 0
         have vf0 := Lib.frozen_of_heap na 0
         obtain ⟨u1, ve0⟩ : ∃ z, wa.setCell ⟨wr.heap.size, 0, none⟩ (.int .i64 yp) = z := ⟨_, rfl⟩
         have n1 : u1.heap[wr.heap.size]? = some (.cells #[.int .i64 yp, .int .i64 0] 60 (0, 0)) := by rw [← ve0]; exact heap_setCell_same _ _ 0 _ 60 _ na
         have vc1 : u1.cell? ⟨wr.heap.size, 1, none⟩ = some (.int .i64 0) := Lib.cell_of_heap n1 1
         have vf1 := Lib.frozen_of_heap n1 1
         obtain ⟨u2, ve1⟩ : ∃ z, u1.setCell ⟨wr.heap.size, 1, none⟩ (.int .i64 yd) = z := ⟨_, rfl⟩
         have n2 : u2.heap[wr.heap.size]? = some (.cells #[.int .i64 yp, .int .i64 yd] 60 (0, 0)) := by rw [← ve1]; exact heap_setCell_same _ _ 1 _ 60 _ n1
         have hb9 : Below wr.heap.size wr u2 := by
          rw [← ve1, ← ve0]
          exact (hba.setCell (Nat.le_refl _) _).setCell (Nat.le_refl _) _
         have HJ2 := hid (HJ.out.trans (hb9.mono HJ.out.size))
         have H52 := hid (H5J.out.trans (hb9.mono H5J.out.size))
         have HY0 := hid n2
         have HNU2 := hid ((H52.out.block _ (Array.getElem?_eq_some_iff.1 HN5.out).1).trans HN5.out)
         clear na n1 n2 hba hb9
         go_wp2_with fail
         clear vc0 vf0 vc1 vf1 ve0 ve1 ea r0 r1 q0
         generalize hyb : wr.heap.size = yb at *
         clear hyb
         have Z0 := hid (show ∀ w', Below u2.heap.size u2 w' → w'.cell? ⟨yb, 0, none⟩ = some (.int .i64 yp) from fun w' hC => cell_below hC (Lib.cell_of_heap HY0.out 0))
         have Z1 := hid (show ∀ w', Below u2.heap.size u2 w' → w'.cell? ⟨yb, 1, none⟩ = some (.int .i64 yd) from fun w' hC => cell_below hC (Lib.cell_of_heap HY0.out 1))
         by_cases hyd : yd = 0
         case neg =>
          have z1 : (yd == 0) = false := by rw [beq_eq_false_iff_ne]; exact hyd
          as_aux_lemma =>
           refine wp_region_below (by kernel_rfl) (by kernel_rfl) ?_
           with_reducible refine BigFrame.wpQuiet_want (by kernel_rfl) (fun K hK => ?_)
           apply Exists.intro
           refine ⟨fun w' hC => ?_, hK _ ?_⟩
           ·unfold Oper.quietAt
            go_simp
            first | with_reducible rfl | done
           clear hK K
           try simp only [Act.put, List.setIfInBounds_toArray, List.set_cons_zero, List.set_cons_succ]
           with_reducible refine BigFrame.wpQuiet_want (by kernel_rfl) (fun K hK => ?_)
           apply Exists.intro
           refine ⟨fun w' hC => ?_, hK _ ?_⟩
           ·have f0' := Z0.out w' hC
            have f1' := Z1.out w' hC
            unfold Oper.quietAt
            go_simp
            first | with_reducible rfl | done
           clear hK K
           try simp only [Act.put, List.setIfInBounds_toArray, List.set_cons_zero, List.set_cons_succ]
           iterate 2
            with_reducible refine BigFrame.wpQuiet_want (by kernel_rfl) (fun K hK => ?_)
            apply Exists.intro
            refine ⟨fun w' hC => ?_, hK _ ?_⟩
            ·unfold Oper.quietAt
             go_simp
             first | with_reducible rfl | done
            clear hK K
            try simp only [Act.put, List.setIfInBounds_toArray, List.set_cons_zero, List.set_cons_succ]
           iterate 3
            with_reducible refine BigFrame.wpQuiet_skip (by kernel_rfl) ?_
            try simp only [Act.put, List.setIfInBounds_toArray, List.set_cons_zero, List.set_cons_succ]
           iterate 2
            with_reducible refine BigFrame.wpQuiet_want (by kernel_rfl) (fun K hK => ?_)
            apply Exists.intro
            refine ⟨fun w' hC => ?_, hK _ ?_⟩
            ·unfold Oper.quietAt
             go_simp
             first | with_reducible rfl | done
            clear hK K
            try simp only [Act.put, List.setIfInBounds_toArray, List.set_cons_zero, List.set_cons_succ]
           iterate 10
            with_reducible refine BigFrame.wpQuiet_skip (by kernel_rfl) ?_
            try simp only [Act.put, List.setIfInBounds_toArray, List.set_cons_zero, List.set_cons_succ]
           iterate 2
            with_reducible refine BigFrame.wpQuiet_want (by kernel_rfl) (fun K hK => ?_)
            apply Exists.intro
            refine ⟨fun w' hC => ?_, hK _ ?_⟩
            ·unfold Oper.quietAt
             go_simp
             first | with_reducible rfl | done
            clear hK K
            try simp only [Act.put, List.setIfInBounds_toArray, List.set_cons_zero, List.set_cons_succ]
           iterate 25
            with_reducible refine BigFrame.wpQuiet_skip (by kernel_rfl) ?_
            try simp only [Act.put, List.setIfInBounds_toArray, List.set_cons_zero, List.set_cons_succ]
           with_reducible refine BigFrame.wpQuiet_want (by kernel_rfl) (fun K hK => ?_)
           apply Exists.intro
           refine ⟨fun w' hC => ?_, hK _ ?_⟩
           ·unfold Oper.quietAt
            go_simp
            first | with_reducible rfl | done
           clear hK K
           try simp only [Act.put, List.setIfInBounds_toArray, List.set_cons_zero, List.set_cons_succ]
           refine wpQuiet_nil ?_
           intro w9 hb9
           have HF9 := hid (HJ2.out.trans (hb9.mono HJ2.out.size))
           clear hb9
           go_wp2_with fail
           refine ⟨⟨y + 1, by omega, by go_num, HF9⟩, ?_⟩
           simp [RowKit.intOf]
           omega
         subst hyd
         by_cases hyp : 0 ≤ yp
         case neg =>
          have z1 : decide (0 ≤ yp) = false := decide_eq_false hyp
          as_aux_lemma =>
           refine wp_region_below (by kernel_rfl) (by kernel_rfl) ?_
           with_reducible refine BigFrame.wpQuiet_want (by kernel_rfl) (fun K hK => ?_)
           apply Exists.intro
           refine ⟨fun w' hC => ?_, hK _ ?_⟩
           ·unfold Oper.quietAt
            go_simp
            first | with_reducible rfl | done
           clear hK K
           try simp only [Act.put, List.setIfInBounds_toArray, List.set_cons_zero, List.set_cons_succ]
           with_reducible refine BigFrame.wpQuiet_want (by kernel_rfl) (fun K hK => ?_)
           apply Exists.intro
           refine ⟨fun w' hC => ?_, hK _ ?_⟩
           ·have f0' := Z0.out w' hC
            have f1' := Z1.out w' hC
            unfold Oper.quietAt
            go_simp
            first | with_reducible rfl | done
           clear hK K
           try simp only [Act.put, List.setIfInBounds_toArray, List.set_cons_zero, List.set_cons_succ]
           iterate 3
            with_reducible refine BigFrame.wpQuiet_want (by kernel_rfl) (fun K hK => ?_)
            apply Exists.intro
            refine ⟨fun w' hC => ?_, hK _ ?_⟩
            ·unfold Oper.quietAt
             go_simp
             first | with_reducible rfl | done
            clear hK K
            try simp only [Act.put, List.setIfInBounds_toArray, List.set_cons_zero, List.set_cons_succ]
           with_reducible refine BigFrame.wpQuiet_want (by kernel_rfl) (fun K hK => ?_)
           apply Exists.intro
           refine ⟨fun w' hC => ?_, hK _ ?_⟩
           ·have f0' := Z0.out w' hC
            have f1' := Z1.out w' hC
            unfold Oper.quietAt
            go_simp
            first | with_reducible rfl | done
           clear hK K
           try simp only [Act.put, List.setIfInBounds_toArray, List.set_cons_zero, List.set_cons_succ]
           iterate 3
            with_reducible refine BigFrame.wpQuiet_want (by kernel_rfl) (fun K hK => ?_)
            apply Exists.intro
            refine ⟨fun w' hC => ?_, hK _ ?_⟩
            ·unfold Oper.quietAt
             go_simp
             first | with_reducible rfl | done
            clear hK K
            try simp only [Act.put, List.setIfInBounds_toArray, List.set_cons_zero, List.set_cons_succ]
           iterate 10
            with_reducible refine BigFrame.wpQuiet_skip (by kernel_rfl) ?_
            try simp only [Act.put, List.setIfInBounds_toArray, List.set_cons_zero, List.set_cons_succ]
           iterate 2
            with_reducible refine BigFrame.wpQuiet_want (by kernel_rfl) (fun K hK => ?_)
            apply Exists.intro
            refine ⟨fun w' hC => ?_, hK _ ?_⟩
            ·unfold Oper.quietAt
             go_simp
             first | with_reducible rfl | done
            clear hK K
            try simp only [Act.put, List.setIfInBounds_toArray, List.set_cons_zero, List.set_cons_succ]
           iterate 25
            with_reducible refine BigFrame.wpQuiet_skip (by kernel_rfl) ?_
            try simp only [Act.put, List.setIfInBounds_toArray, List.set_cons_zero, List.set_cons_succ]
           with_reducible refine BigFrame.wpQuiet_want (by kernel_rfl) (fun K hK => ?_)
           apply Exists.intro
           refine ⟨fun w' hC => ?_, hK _ ?_⟩
           ·unfold Oper.quietAt
            go_simp
            first | with_reducible rfl | done
           clear hK K
           try simp only [Act.put, List.setIfInBounds_toArray, List.set_cons_zero, List.set_cons_succ]
           refine wpQuiet_nil ?_
           intro w9 hb9
           have HF9 := hid (HJ2.out.trans (hb9.mono HJ2.out.size))
           clear hb9
           go_wp2_with fail
           refine ⟨⟨y + 1, by omega, by go_num, HF9⟩, ?_⟩
           simp [RowKit.intOf]
           omega
         obtain ⟨r, rfl⟩ : ∃ r : Nat, yp = (r : Int) := ⟨yp.toNat, by omega⟩
         have hrl2 : r < np := by omega
         obtain ⟨pb, po, rfl, hpq⟩ := hpx (by omega)
         obtain ⟨_, p1, _, _⟩ := hpq r hrl2
         obtain ⟨so, hso⟩ : ∃ so, (G.prods.getD r default).sort = so := ⟨_, rfl⟩
         rw [hso] at p1
         have HSO := hid hso
         have z1 : decide ((0 : Int) ≤ (r : Int)) = true := decide_eq_true (by omega)
         have z2 : (r : Int) < (np : Int) := by omega
         have hs61 : -61 ≤ s := by
          obtain ⟨kk, e1, _⟩ := symOk HVAL.out _ s HBX.out
          have := valid_start HVAL.out
          unfold placeX at e1
          rw [if_neg (by omega)] at e1
          split at e1
          ·omega
          ·cases e1
         have hw2 : IntKind.i64.wrap (-1 - s) = -1 - s := wrap_small (by omega) (by omega)
         have Z2 := hid (show ∀ w', Below u2.heap.size u2 w' → w'.cell? ⟨w.heap.size, 3, none⟩ = some (.slice (some ⟨pb, po, none⟩) np pc) from fun w' hC => cell_below hC (Lib.cell_of_heap HNU2.out 3))
         have Z3 := hid (show ∀ w', Below u2.heap.size u2 w' → w'.cell? ⟨pb, po + r * 4 + 1, none⟩ = some (.int .i64 so) from fun w' hC => cell_below hC (cell_below (HB5.out.trans (H52.out.mono HB5.out.size)) p1))
         clear hpq p1 hso
         by_cases hss : so = -1 - s
         case neg =>
          have z3 : (so == -1 - s) = false := by rw [beq_eq_false_iff_ne]; exact hss
          as_aux_lemma =>
           refine wp_region_below (by kernel_rfl) (by kernel_rfl) ?_
           with_reducible refine BigFrame.wpQuiet_want (by kernel_rfl) (fun K hK => ?_)
           apply Exists.intro
           refine ⟨fun w' hC => ?_, hK _ ?_⟩
           ·unfold Oper.quietAt
            go_simp
            first | with_reducible rfl | done
           clear hK K
           try simp only [Act.put, List.setIfInBounds_toArray, List.set_cons_zero, List.set_cons_succ, hw2]
           with_reducible refine BigFrame.wpQuiet_want (by kernel_rfl) (fun K hK => ?_)
           apply Exists.intro
           refine ⟨fun w' hC => ?_, hK _ ?_⟩
           ·have f0' := Z0.out w' hC
            have f1' := Z1.out w' hC
            have f2' := Z2.out w' hC
            have f3' := Z3.out w' hC
            unfold Oper.quietAt
            go_simp
            first | with_reducible rfl | done
           clear hK K
           try simp only [Act.put, List.setIfInBounds_toArray, List.set_cons_zero, List.set_cons_succ, hw2]
           iterate 3
            with_reducible refine BigFrame.wpQuiet_want (by kernel_rfl) (fun K hK => ?_)
            apply Exists.intro
            refine ⟨fun w' hC => ?_, hK _ ?_⟩
            ·unfold Oper.quietAt
             go_simp
             first | with_reducible rfl | done
            clear hK K
            try simp only [Act.put, List.setIfInBounds_toArray, List.set_cons_zero, List.set_cons_succ, hw2]
           with_reducible refine BigFrame.wpQuiet_want (by kernel_rfl) (fun K hK => ?_)
           apply Exists.intro
           refine ⟨fun w' hC => ?_, hK _ ?_⟩
           ·have f0' := Z0.out w' hC
            have f1' := Z1.out w' hC
            have f2' := Z2.out w' hC
            have f3' := Z3.out w' hC
            unfold Oper.quietAt
            go_simp
            first | with_reducible rfl | done
           clear hK K
           try simp only [Act.put, List.setIfInBounds_toArray, List.set_cons_zero, List.set_cons_succ, hw2]
           iterate 4
            with_reducible refine BigFrame.wpQuiet_want (by kernel_rfl) (fun K hK => ?_)
            apply Exists.intro
            refine ⟨fun w' hC => ?_, hK _ ?_⟩
            ·unfold Oper.quietAt
             go_simp
             first | with_reducible rfl | done
            clear hK K
            try simp only [Act.put, List.setIfInBounds_toArray, List.set_cons_zero, List.set_cons_succ, hw2]
           with_reducible refine BigFrame.wpQuiet_want (by kernel_rfl) (fun K hK => ?_)
           apply Exists.intro
           refine ⟨fun w' hC => ?_, hK _ ?_⟩
           ·have f0' := Z0.out w' hC
            have f1' := Z1.out w' hC
            have f2' := Z2.out w' hC
            have f3' := Z3.out w' hC
            unfold Oper.quietAt
            go_simp
            first | with_reducible rfl | done
           clear hK K
           try simp only [Act.put, List.setIfInBounds_toArray, List.set_cons_zero, List.set_cons_succ, hw2]
           with_reducible refine BigFrame.wpQuiet_want (by kernel_rfl) (fun K hK => ?_)
           apply Exists.intro
           refine ⟨fun w' hC => ?_, hK _ ?_⟩
           ·unfold Oper.quietAt
            go_simp
            first | with_reducible rfl | done
           clear hK K
           try simp only [Act.put, List.setIfInBounds_toArray, List.set_cons_zero, List.set_cons_succ, hw2]
           with_reducible refine BigFrame.wpQuiet_want (by kernel_rfl) (fun K hK => ?_)
           apply Exists.intro
           refine ⟨fun w' hC => ?_, hK _ ?_⟩
           ·have f0' := Z0.out w' hC
            have f1' := Z1.out w' hC
            have f2' := Z2.out w' hC
            have f3' := Z3.out w' hC
            unfold Oper.quietAt
            go_simp
            first | with_reducible rfl | done
           clear hK K
           try simp only [Act.put, List.setIfInBounds_toArray, List.set_cons_zero, List.set_cons_succ, hw2]
           iterate 2
            with_reducible refine BigFrame.wpQuiet_want (by kernel_rfl) (fun K hK => ?_)
            apply Exists.intro
            refine ⟨fun w' hC => ?_, hK _ ?_⟩
            ·unfold Oper.quietAt
             go_simp
             first | with_reducible rfl | done
            clear hK K
            try simp only [Act.put, List.setIfInBounds_toArray, List.set_cons_zero, List.set_cons_succ, hw2]
           with_reducible refine BigFrame.wpQuiet_want (by kernel_rfl) (fun K hK => ?_)
           apply Exists.intro
           refine ⟨fun w' hC => ?_, hK _ ?_⟩
           ·have f0' := Z0.out w' hC
            have f1' := Z1.out w' hC
            have f2' := Z2.out w' hC
            have f3' := Z3.out w' hC
            unfold Oper.quietAt
            go_simp
            first | with_reducible rfl | done
           clear hK K
           try simp only [Act.put, List.setIfInBounds_toArray, List.set_cons_zero, List.set_cons_succ, hw2]
           iterate 5
            with_reducible refine BigFrame.wpQuiet_want (by kernel_rfl) (fun K hK => ?_)
            apply Exists.intro
            refine ⟨fun w' hC => ?_, hK _ ?_⟩
            ·unfold Oper.quietAt
             go_simp
             first | with_reducible rfl | done
            clear hK K
            try simp only [Act.put, List.setIfInBounds_toArray, List.set_cons_zero, List.set_cons_succ, hw2]
           iterate 25
            with_reducible refine BigFrame.wpQuiet_skip (by kernel_rfl) ?_
            try simp only [Act.put, List.setIfInBounds_toArray, List.set_cons_zero, List.set_cons_succ, hw2]
           with_reducible refine BigFrame.wpQuiet_want (by kernel_rfl) (fun K hK => ?_)
           apply Exists.intro
           refine ⟨fun w' hC => ?_, hK _ ?_⟩
           ·unfold Oper.quietAt
            go_simp
            first | with_reducible rfl | done
           clear hK K
           try simp only [Act.put, List.setIfInBounds_toArray, List.set_cons_zero, List.set_cons_succ, hw2]
           refine wpQuiet_nil ?_
           intro w9 hb9
           have HF9 := hid (HJ2.out.trans (hb9.mono HJ2.out.size))
           clear hb9 hw2
           go_wp2_with fail
           refine ⟨⟨y + 1, by omega, by go_num, HF9⟩, ?_⟩
           simp [RowKit.intOf]
           omega
         subst hss
         have hsub := HL.out.more (q := r) hli HX.out HBX.out hs (by show r < G.prods.length; omega) HSO.out
         have hrest : S13.X15.restX G (xp, (d : Int)) = (rightX G xp).drop (d + 1) := rfl
         have hlo := HL.out.low (i, (xp, (d : Int)))
         have hlo2 := HL.out.low (i, ((r : Int), (0 : Int)))
         have hRI := HRIB.out.mono HJ2.out
         have hcut : IntsAt u2 (cutV rb rof rl rc (d + 1)) ((rightX G xp).drop (d + 1)) := by
          refine cut_at (fun i hi => ?_) HRL.out hRI.2 (by have := X14.right_le HVAL.out hp0 hp1; rw [HRL.out] at this; omega) hrc (d + 1)
          obtain ⟨a, c, e1, _, e2⟩ := hRI.1
          obtain ⟨b, off, e3, e4⟩ := e2 (by rw [HRL.out]; omega)
          subst e3
          injection e1 with e1 _ _
          injection e1 with e1
          injection e1 with e1 e5
          subst e1
          subst e5
          exact e4 i hi
         obtain ⟨val, hval⟩ : ∃ val, S13.ofRow G.terms.length (E0 G) (F0 G) ((rightX G xp).drop (d + 1)) (A (i, (xp, (d : Int)))) = val := ⟨_, rfl⟩
         have hvlt : val < top := by rw [← hval]; exact S13.ofRow_lt _ _ (S13.f0_least HVAL.out).2.2 _ hlo
         have KO := hid (show ∀ w', Below u2.heap.size u2 w' → Calls Tryz.prog 29 #[.agg #[tv, ov, sv, .slice (some ⟨pb, po, none⟩) np pc, .int .i64 G.start], cutV rb rof rl rc (d + 1), uv (A (i, (xp, (d : Int))))] w' fun e w'' => e = .returned (uv val) ∧ Below w'.heap.size w' w'' from fun w' hC => by
          have hb5w := HB5.out.trans ((H52.out.trans (hC.mono H52.out.size)).mono HB5.out.size)
          refine (S13.Of_any (HGA.out.mono hb5w) HVAL.out (hcut.mono hC) (b := A (i, (xp, (d : Int)))) hlo).mono ?_
          rintro e w'' ⟨E, F, rfl, hE, hF, hb⟩
          obtain rfl : E = E0 G := hE.same (S13.e0_least HVAL.out)
          obtain rfl : F = F0 G := hF.sameN (S13.f0_least HVAL.out) (S13.evF_mono _ _ _ _)
          exact ⟨by rw [← hval], hb⟩)
         have hsub2 : Sub val (A (i, ((r : Int), (0 : Int)))) := by rw [← hval]; exact hsub
         have hin2 : S13.inN val (A (i, ((r : Int), (0 : Int)))) = true := decide_eq_true ((S13.lessN_zero_iff hvlt).2 fun j _ hj => S13.sub_iff.1 hsub2 j hj)
         have KH := hid (show ∀ w', Below u2.heap.size u2 w' → Calls Tryz.prog 28 #[uv val, uv (A (i, ((r : Int), (0 : Int))))] w' fun e w'' => e = .returned (.bool true) ∧ Below w'.heap.size w' w'' from fun w' hC => (S13.In_any _ _ hvlt hlo2 w').mono fun e w'' ⟨h1, h2⟩ => ⟨by rw [h1, hin2], by rw [← h2]; exact Below.refl _ _⟩)
         have HRUN := hid (fun w' : World => run_cut rb rof rl rc d hdl w')
         have hw3 : IntKind.i64.wrap ((d : Int) + 1) = (d : Int) + 1 := wrap_small (by omega) (by omega)
         have z3 : ((-1 - s : Int) == -1 - s) = true := by rw [beq_iff_eq]
         have HNX2 := HNU2
         have Z4 := hid (show ∀ w', Below u2.heap.size u2 w' → w'.cell? ⟨w.heap.size, 0, none⟩ = some tv from fun w' hC => cell_below hC (Lib.cell_of_heap HNU2.out 0))
         have Z5 := hid (show ∀ w', Below u2.heap.size u2 w' → w'.cell? ⟨w.heap.size, 1, none⟩ = some ov from fun w' hC => cell_below hC (Lib.cell_of_heap HNU2.out 1))
         have Z6 := hid (show ∀ w', Below u2.heap.size u2 w' → w'.cell? ⟨w.heap.size, 2, none⟩ = some sv from fun w' hC => cell_below hC (Lib.cell_of_heap HNU2.out 2))
         have Z7 := hid (show ∀ w', Below u2.heap.size u2 w' → w'.cell? ⟨w.heap.size, 4, none⟩ = some (.int .i64 G.start) from fun w' hC => cell_below hC (Lib.cell_of_heap HNU2.out 4))
         have Z8 := hid (show ∀ w', Below u2.heap.size u2 w' → w'.cell? ⟨xb, 1, none⟩ = some (.int .i64 (d : Int)) from fun w' hC => cell_below hC (cell_below HJ2.out (Lib.cell_of_heap HXB.out 1)))
         have Z9 := hid (show ∀ w', Below u2.heap.size u2 w' → w'.cell? ⟨lb, lf + i * 2 + 1, none⟩ = some (.slice (some ⟨ab, af, none⟩) N ac) from fun w' hC => cell_below hC (cell_below H52.out HQ1.out))
         have Z10 := hid (show ∀ w', Below u2.heap.size u2 w' → w'.cell? ⟨ab, af + k, none⟩ = some (uv (A (i, (xp, (d : Int))))) from fun w' hC => cell_below hC (cell_below H52.out HX2.out))
         have Z11 := hid (show ∀ w', Below u2.heap.size u2 w' → w'.cell? ⟨ab, af + y, none⟩ = some (uv (A (i, ((r : Int), (0 : Int))))) from fun w' hC => cell_below hC (cell_below H52.out HY2.out))
         obtain ⟨av, hav⟩ : ∃ av, A (i, (xp, (d : Int))) = av := ⟨_, rfl⟩
         obtain ⟨lv, hlv⟩ : ∃ lv, A (i, ((r : Int), (0 : Int))) = lv := ⟨_, rfl⟩
         rw [hav] at Z10 KO
         rw [hlv] at Z11 KH
         obtain ⟨cv, hcv⟩ : ∃ cv, cutV rb rof rl rc (d + 1) = cv := ⟨_, rfl⟩
         rw [hcv] at KO HRUN
         clear hsub hsub2 hrest hlo hlo2 hRI hcut hval hvlt hin2 hav hlv hcv HNX2
         as_aux_lemma =>
          refine wp_region_below (by kernel_rfl) (by kernel_rfl) ?_
          with_reducible refine BigFrame.wpQuiet_want (by kernel_rfl) (fun K hK => ?_)
          apply Exists.intro
          refine ⟨fun w' hC => ?_, hK _ ?_⟩
          ·unfold Oper.quietAt
           go_simp
           first | with_reducible rfl | done
          clear hK K
          try simp only [Act.put, List.setIfInBounds_toArray, List.set_cons_zero, List.set_cons_succ, hw2, hw3]
          with_reducible refine BigFrame.wpQuiet_want (by kernel_rfl) (fun K hK => ?_)
          apply Exists.intro
          refine ⟨fun w' hC => ?_, hK _ ?_⟩
          ·have f0' := Z0.out w' hC
           have f1' := Z1.out w' hC
           have f2' := Z2.out w' hC
           have f3' := Z3.out w' hC
           have f4' := Z4.out w' hC
           have f5' := Z5.out w' hC
           have f6' := Z6.out w' hC
           have f7' := Z7.out w' hC
           have f8' := Z8.out w' hC
           have f9' := Z9.out w' hC
           have f10' := Z10.out w' hC
           have f11' := Z11.out w' hC
           unfold Oper.quietAt
           go_simp
           first | with_reducible rfl | done
          clear hK K
          try simp only [Act.put, List.setIfInBounds_toArray, List.set_cons_zero, List.set_cons_succ, hw2, hw3]
          iterate 3
           with_reducible refine BigFrame.wpQuiet_want (by kernel_rfl) (fun K hK => ?_)
           apply Exists.intro
           refine ⟨fun w' hC => ?_, hK _ ?_⟩
           ·unfold Oper.quietAt
            go_simp
            first | with_reducible rfl | done
           clear hK K
           try simp only [Act.put, List.setIfInBounds_toArray, List.set_cons_zero, List.set_cons_succ, hw2, hw3]
          with_reducible refine BigFrame.wpQuiet_want (by kernel_rfl) (fun K hK => ?_)
          apply Exists.intro
          refine ⟨fun w' hC => ?_, hK _ ?_⟩
          ·have f0' := Z0.out w' hC
           have f1' := Z1.out w' hC
           have f2' := Z2.out w' hC
           have f3' := Z3.out w' hC
           have f4' := Z4.out w' hC
           have f5' := Z5.out w' hC
           have f6' := Z6.out w' hC
           have f7' := Z7.out w' hC
           have f8' := Z8.out w' hC
           have f9' := Z9.out w' hC
           have f10' := Z10.out w' hC
           have f11' := Z11.out w' hC
           unfold Oper.quietAt
           go_simp
           first | with_reducible rfl | done
          clear hK K
          try simp only [Act.put, List.setIfInBounds_toArray, List.set_cons_zero, List.set_cons_succ, hw2, hw3]
          iterate 4
           with_reducible refine BigFrame.wpQuiet_want (by kernel_rfl) (fun K hK => ?_)
           apply Exists.intro
           refine ⟨fun w' hC => ?_, hK _ ?_⟩
           ·unfold Oper.quietAt
            go_simp
            first | with_reducible rfl | done
           clear hK K
           try simp only [Act.put, List.setIfInBounds_toArray, List.set_cons_zero, List.set_cons_succ, hw2, hw3]
          with_reducible refine BigFrame.wpQuiet_want (by kernel_rfl) (fun K hK => ?_)
          apply Exists.intro
          refine ⟨fun w' hC => ?_, hK _ ?_⟩
          ·have f0' := Z0.out w' hC
           have f1' := Z1.out w' hC
           have f2' := Z2.out w' hC
           have f3' := Z3.out w' hC
           have f4' := Z4.out w' hC
           have f5' := Z5.out w' hC
           have f6' := Z6.out w' hC
           have f7' := Z7.out w' hC
           have f8' := Z8.out w' hC
           have f9' := Z9.out w' hC
           have f10' := Z10.out w' hC
           have f11' := Z11.out w' hC
           unfold Oper.quietAt
           go_simp
           first | with_reducible rfl | done
          clear hK K
          try simp only [Act.put, List.setIfInBounds_toArray, List.set_cons_zero, List.set_cons_succ, hw2, hw3]
          with_reducible refine BigFrame.wpQuiet_want (by kernel_rfl) (fun K hK => ?_)
          apply Exists.intro
          refine ⟨fun w' hC => ?_, hK _ ?_⟩
          ·unfold Oper.quietAt
           go_simp
           first | with_reducible rfl | done
          clear hK K
          try simp only [Act.put, List.setIfInBounds_toArray, List.set_cons_zero, List.set_cons_succ, hw2, hw3]
          with_reducible refine BigFrame.wpQuiet_want (by kernel_rfl) (fun K hK => ?_)
          apply Exists.intro
          refine ⟨fun w' hC => ?_, hK _ ?_⟩
          ·have f0' := Z0.out w' hC
           have f1' := Z1.out w' hC
           have f2' := Z2.out w' hC
           have f3' := Z3.out w' hC
           have f4' := Z4.out w' hC
           have f5' := Z5.out w' hC
           have f6' := Z6.out w' hC
           have f7' := Z7.out w' hC
           have f8' := Z8.out w' hC
           have f9' := Z9.out w' hC
           have f10' := Z10.out w' hC
           have f11' := Z11.out w' hC
           unfold Oper.quietAt
           go_simp
           first | with_reducible rfl | done
          clear hK K
          try simp only [Act.put, List.setIfInBounds_toArray, List.set_cons_zero, List.set_cons_succ, hw2, hw3]
          iterate 2
           with_reducible refine BigFrame.wpQuiet_want (by kernel_rfl) (fun K hK => ?_)
           apply Exists.intro
           refine ⟨fun w' hC => ?_, hK _ ?_⟩
           ·unfold Oper.quietAt
            go_simp
            first | with_reducible rfl | done
           clear hK K
           try simp only [Act.put, List.setIfInBounds_toArray, List.set_cons_zero, List.set_cons_succ, hw2, hw3]
          with_reducible refine BigFrame.wpQuiet_want (by kernel_rfl) (fun K hK => ?_)
          apply Exists.intro
          refine ⟨fun w' hC => ?_, hK _ ?_⟩
          ·have f0' := Z0.out w' hC
           have f1' := Z1.out w' hC
           have f2' := Z2.out w' hC
           have f3' := Z3.out w' hC
           have f4' := Z4.out w' hC
           have f5' := Z5.out w' hC
           have f6' := Z6.out w' hC
           have f7' := Z7.out w' hC
           have f8' := Z8.out w' hC
           have f9' := Z9.out w' hC
           have f10' := Z10.out w' hC
           have f11' := Z11.out w' hC
           unfold Oper.quietAt
           go_simp
           first | with_reducible rfl | done
          clear hK K
          try simp only [Act.put, List.setIfInBounds_toArray, List.set_cons_zero, List.set_cons_succ, hw2, hw3]
          iterate 5
           with_reducible refine BigFrame.wpQuiet_want (by kernel_rfl) (fun K hK => ?_)
           apply Exists.intro
           refine ⟨fun w' hC => ?_, hK _ ?_⟩
           ·unfold Oper.quietAt
            go_simp
            first | with_reducible rfl | done
           clear hK K
           try simp only [Act.put, List.setIfInBounds_toArray, List.set_cons_zero, List.set_cons_succ, hw2, hw3]
          with_reducible refine BigFrame.wpQuiet_want (by kernel_rfl) (fun K hK => ?_)
          apply Exists.intro
          refine ⟨fun w' hC => ?_, hK _ ?_⟩
          ·have f0' := Z0.out w' hC
           have f1' := Z1.out w' hC
           have f2' := Z2.out w' hC
           have f3' := Z3.out w' hC
           have f4' := Z4.out w' hC
           have f5' := Z5.out w' hC
           have f6' := Z6.out w' hC
           have f7' := Z7.out w' hC
           have f8' := Z8.out w' hC
           have f9' := Z9.out w' hC
           have f10' := Z10.out w' hC
           have f11' := Z11.out w' hC
           unfold Oper.quietAt
           go_simp
           first | with_reducible rfl | done
          clear hK K
          try simp only [Act.put, List.setIfInBounds_toArray, List.set_cons_zero, List.set_cons_succ, hw2, hw3]
          iterate 2
           with_reducible refine BigFrame.wpQuiet_want (by kernel_rfl) (fun K hK => ?_)
           apply Exists.intro
           refine ⟨fun w' hC => ?_, hK _ ?_⟩
           ·unfold Oper.quietAt
            go_simp
            first | with_reducible rfl | done
           clear hK K
           try simp only [Act.put, List.setIfInBounds_toArray, List.set_cons_zero, List.set_cons_succ, hw2, hw3]
          with_reducible refine BigFrame.wpQuiet_want (by kernel_rfl) (fun K hK => ?_)
          apply Exists.intro
          refine ⟨fun w' hC => ?_, hK _ ?_⟩
          ·have f0' := Z0.out w' hC
           have f1' := Z1.out w' hC
           have f2' := Z2.out w' hC
           have f3' := Z3.out w' hC
           have f4' := Z4.out w' hC
           have f5' := Z5.out w' hC
           have f6' := Z6.out w' hC
           have f7' := Z7.out w' hC
           have f8' := Z8.out w' hC
           have f9' := Z9.out w' hC
           have f10' := Z10.out w' hC
           have f11' := Z11.out w' hC
           unfold Oper.quietAt
           go_simp
           first | with_reducible rfl | done
          clear hK K
          try simp only [Act.put, List.setIfInBounds_toArray, List.set_cons_zero, List.set_cons_succ, hw2, hw3]
          with_reducible refine BigFrame.wpQuiet_want (by kernel_rfl) (fun K hK => ?_)
          apply Exists.intro
          refine ⟨fun w' hC => ?_, hK _ ?_⟩
          ·unfold Oper.quietAt
           go_simp
           first | with_reducible rfl | done
          clear hK K
          try simp only [Act.put, List.setIfInBounds_toArray, List.set_cons_zero, List.set_cons_succ, hw2, hw3]
          with_reducible refine BigFrame.wpQuiet_want (by kernel_rfl) (fun K hK => ?_)
          apply Exists.intro
          refine ⟨fun w' hC => ?_, hK _ ?_⟩
          ·unfold Oper.quietAt
           rw [slice_exec rfl rfl rfl (by kernel_rfl) (HRUN.out w')]
           exact ⟨rfl, rfl⟩
          clear hK K
          try simp only [Act.put, List.setIfInBounds_toArray, List.set_cons_zero, List.set_cons_succ, hw2, hw3]
          iterate 4
           with_reducible refine BigFrame.wpQuiet_want (by kernel_rfl) (fun K hK => ?_)
           apply Exists.intro
           refine ⟨fun w' hC => ?_, hK _ ?_⟩
           ·unfold Oper.quietAt
            go_simp
            first | with_reducible rfl | done
           clear hK K
           try simp only [Act.put, List.setIfInBounds_toArray, List.set_cons_zero, List.set_cons_succ, hw2, hw3]
          with_reducible refine BigFrame.wpQuiet_want (by kernel_rfl) (fun K hK => ?_)
          apply Exists.intro
          refine ⟨fun w' hC => ?_, hK _ ?_⟩
          ·have f0' := Z0.out w' hC
           have f1' := Z1.out w' hC
           have f2' := Z2.out w' hC
           have f3' := Z3.out w' hC
           have f4' := Z4.out w' hC
           have f5' := Z5.out w' hC
           have f6' := Z6.out w' hC
           have f7' := Z7.out w' hC
           have f8' := Z8.out w' hC
           have f9' := Z9.out w' hC
           have f10' := Z10.out w' hC
           have f11' := Z11.out w' hC
           unfold Oper.quietAt
           go_simp
           first | with_reducible rfl | done
          clear hK K
          try simp only [Act.put, List.setIfInBounds_toArray, List.set_cons_zero, List.set_cons_succ, hw2, hw3]
          iterate 2
           with_reducible refine BigFrame.wpQuiet_want (by kernel_rfl) (fun K hK => ?_)
           apply Exists.intro
           refine ⟨fun w' hC => ?_, hK _ ?_⟩
           ·unfold Oper.quietAt
            go_simp
            first | with_reducible rfl | done
           clear hK K
           try simp only [Act.put, List.setIfInBounds_toArray, List.set_cons_zero, List.set_cons_succ, hw2, hw3]
          with_reducible refine BigFrame.wpQuiet_want (by kernel_rfl) (fun K hK => ?_)
          apply Exists.intro
          refine ⟨fun w' hC => ?_, hK _ ?_⟩
          ·have f0' := Z0.out w' hC
           have f1' := Z1.out w' hC
           have f2' := Z2.out w' hC
           have f3' := Z3.out w' hC
           have f4' := Z4.out w' hC
           have f5' := Z5.out w' hC
           have f6' := Z6.out w' hC
           have f7' := Z7.out w' hC
           have f8' := Z8.out w' hC
           have f9' := Z9.out w' hC
           have f10' := Z10.out w' hC
           have f11' := Z11.out w' hC
           unfold Oper.quietAt
           go_simp
           first | with_reducible rfl | done
          clear hK K
          try simp only [Act.put, List.setIfInBounds_toArray, List.set_cons_zero, List.set_cons_succ, hw2, hw3]
          with_reducible refine BigFrame.wpQuiet_want (by kernel_rfl) (fun K hK => ?_)
          apply Exists.intro
          refine ⟨fun w' hC => ?_, hK _ ?_⟩
          ·unfold Oper.quietAt
           go_simp
           first
             | with_reducible exact below_call hC (Nat.le_refl _) (KO.out w' hC)
             | with_reducible exact below_call hC (Nat.le_refl _) (KH.out w' hC)
          clear hK K
          try simp only [Act.put, List.setIfInBounds_toArray, List.set_cons_zero, List.set_cons_succ, hw2, hw3]
          iterate 4
           with_reducible refine BigFrame.wpQuiet_want (by kernel_rfl) (fun K hK => ?_)
           apply Exists.intro
           refine ⟨fun w' hC => ?_, hK _ ?_⟩
           ·unfold Oper.quietAt
            go_simp
            first | with_reducible rfl | done
           clear hK K
           try simp only [Act.put, List.setIfInBounds_toArray, List.set_cons_zero, List.set_cons_succ, hw2, hw3]
          with_reducible refine BigFrame.wpQuiet_want (by kernel_rfl) (fun K hK => ?_)
          apply Exists.intro
          refine ⟨fun w' hC => ?_, hK _ ?_⟩
          ·have f0' := Z0.out w' hC
           have f1' := Z1.out w' hC
           have f2' := Z2.out w' hC
           have f3' := Z3.out w' hC
           have f4' := Z4.out w' hC
           have f5' := Z5.out w' hC
           have f6' := Z6.out w' hC
           have f7' := Z7.out w' hC
           have f8' := Z8.out w' hC
           have f9' := Z9.out w' hC
           have f10' := Z10.out w' hC
           have f11' := Z11.out w' hC
           unfold Oper.quietAt
           go_simp
           first | with_reducible rfl | done
          clear hK K
          try simp only [Act.put, List.setIfInBounds_toArray, List.set_cons_zero, List.set_cons_succ, hw2, hw3]
          iterate 2
           with_reducible refine BigFrame.wpQuiet_want (by kernel_rfl) (fun K hK => ?_)
           apply Exists.intro
           refine ⟨fun w' hC => ?_, hK _ ?_⟩
           ·unfold Oper.quietAt
            go_simp
            first | with_reducible rfl | done
           clear hK K
           try simp only [Act.put, List.setIfInBounds_toArray, List.set_cons_zero, List.set_cons_succ, hw2, hw3]
          with_reducible refine BigFrame.wpQuiet_want (by kernel_rfl) (fun K hK => ?_)
          apply Exists.intro
          refine ⟨fun w' hC => ?_, hK _ ?_⟩
          ·have f0' := Z0.out w' hC
           have f1' := Z1.out w' hC
           have f2' := Z2.out w' hC
           have f3' := Z3.out w' hC
           have f4' := Z4.out w' hC
           have f5' := Z5.out w' hC
           have f6' := Z6.out w' hC
           have f7' := Z7.out w' hC
           have f8' := Z8.out w' hC
           have f9' := Z9.out w' hC
           have f10' := Z10.out w' hC
           have f11' := Z11.out w' hC
           unfold Oper.quietAt
           go_simp
           first | with_reducible rfl | done
          clear hK K
          try simp only [Act.put, List.setIfInBounds_toArray, List.set_cons_zero, List.set_cons_succ, hw2, hw3]
          with_reducible refine BigFrame.wpQuiet_want (by kernel_rfl) (fun K hK => ?_)
          apply Exists.intro
          refine ⟨fun w' hC => ?_, hK _ ?_⟩
          ·unfold Oper.quietAt
           go_simp
           first
             | with_reducible exact below_call hC (Nat.le_refl _) (KO.out w' hC)
             | with_reducible exact below_call hC (Nat.le_refl _) (KH.out w' hC)
          clear hK K
          try simp only [Act.put, List.setIfInBounds_toArray, List.set_cons_zero, List.set_cons_succ, hw2, hw3]
          iterate 2
           with_reducible refine BigFrame.wpQuiet_want (by kernel_rfl) (fun K hK => ?_)
           apply Exists.intro
           refine ⟨fun w' hC => ?_, hK _ ?_⟩
           ·unfold Oper.quietAt
            go_simp
            first | with_reducible rfl | done
           clear hK K
           try simp only [Act.put, List.setIfInBounds_toArray, List.set_cons_zero, List.set_cons_succ, hw2, hw3]
          refine wpQuiet_nil ?_
          intro w9 hb9
          have HF9 := hid (HJ2.out.trans (hb9.mono HJ2.out.size))
          clear hb9 hw2 hw3
          go_wp2_with fail
          refine ⟨⟨y + 1, by omega, by go_num, HF9⟩, ?_⟩
          simp [RowKit.intOf]
          omega
    ·have j1 : ¬ (k : Int) < (N : Int) := by omega
     go_wp2_with fail
     refine ⟨⟨i + 1, by omega, by go_num, HR⟩, ?_⟩
     simp [RowKit.intOf]
     omega
  ·have m1 : ¬ (i : Int) < (n : Int) := by omega
   go_wp2_with fail
   go_ret
   exact ⟨rfl, HB5.out.trans (HR.out.mono HB5.out.size)⟩
end Go.Proofs.YticmnfmijdgmbaaGreatDoor
