/- The walk of LookFollows. -/
import Derived.Test.YticmnfmijdgmbaaGreatDoorYb
namespace Go.Proofs.YticmnfmijdgmbaaGreatDoor
open Go Go.RowKit Go.Lib
open X14 (It exG closeX iterB BuiltOk BuiltMany rightX behX sortX)
open S13 (u64 bitN top E0 F0 Sub hasN)
open S13.X15 (Pl LeastA askX places cxB)
set_option linter.unusedVariables false
set_option linter.unusedSimpArgs false
set_option maxRecDepth 100000 in
set_option maxHeartbeats 16000000 in
theorem follows_walk {G : GD} {gv : Value} {w : World} {Bt : Nat} (h : Gram w gv G) (ht : Tab Bt w) (hBt : Bt ≤ w.heap.size) :
  Calls Tryz.prog 5 #[gv] w fun e w' => e = .returned (.bool true) ∧ Below w.heap.size w w' := by
 have HGr := hid h
 have HT := hid ht
 obtain ⟨tv, ov, sv, pv, tf, rv, h⟩ := h
 have HGA := hid h
 have hgv := h.eq
 subst hgv
 obtain ⟨W1, e1⟩ : ∃ W1, w.alloc (.cells #[tv, ov, sv, pv, .int .i64 G.start] 27) = W1 := ⟨_, rfl⟩
 have hb1 : Below w.heap.size w W1 := by rw [← e1]; exact (Below.refl _ _).alloc (Nat.le_refl _) _
 have n1 : W1.heap[w.heap.size]? = some (.cells #[tv, ov, sv, pv, .int .i64 G.start] 27 (0, 0)) := by rw [← e1]; exact new_block _ _
 have HB1 := hid hb1
 have HN1 := hid n1
 have KW := hid (works_any W1 (ht.on (hb1.mono hBt)) (Nat.le_trans hBt hb1.size))
 clear h hb1 n1 ht
 go_enter Tryz.func5, Tryz.ntmps5
 go_wp2_with fail
 refine KW.out.mono ?_
 rintro e w2 ⟨rfl, hb2⟩
 have HB2 := hid (HB1.out.trans (hb2.mono HB1.out.size))
 have HN2 := hid ((hb2.block _ (Array.getElem?_eq_some_iff.1 HN1.out).1).trans HN1.out)
 have c0 : w2.cell? ⟨w.heap.size, 0, none⟩ = some (tv) := Lib.cell_of_heap HN2.out 0
 have c1 : w2.cell? ⟨w.heap.size, 1, none⟩ = some (ov) := Lib.cell_of_heap HN2.out 1
 have c2 : w2.cell? ⟨w.heap.size, 2, none⟩ = some (sv) := Lib.cell_of_heap HN2.out 2
 have c3 : w2.cell? ⟨w.heap.size, 3, none⟩ = some (pv) := Lib.cell_of_heap HN2.out 3
 have c4 : w2.cell? ⟨w.heap.size, 4, none⟩ = some (.int .i64 G.start) := Lib.cell_of_heap HN2.out 4
 have KF := hid (Little_any (HGr.out.below HB2.out))
 clear hb2 KW e1
 go_wp2_with fail
 refine KF.out.mono ?_
 rintro e w3 ⟨fw, rfl, hb3⟩
 have HB3 := hid (HB2.out.trans (hb3.mono HB2.out.size))
 have HN3 := hid ((hb3.block _ (Array.getElem?_eq_some_iff.1 HN2.out).1).trans HN2.out)
 clear hb3 KF c0 c1 c2 c3 c4
 cases fw
 ·go_wp2_with fail
  go_ret
  exact ⟨rfl, HB3.out⟩
 have c0 : w3.cell? ⟨w.heap.size, 0, none⟩ = some (tv) := Lib.cell_of_heap HN3.out 0
 have c1 : w3.cell? ⟨w.heap.size, 1, none⟩ = some (ov) := Lib.cell_of_heap HN3.out 1
 have c2 : w3.cell? ⟨w.heap.size, 2, none⟩ = some (sv) := Lib.cell_of_heap HN3.out 2
 have c3 : w3.cell? ⟨w.heap.size, 3, none⟩ = some (pv) := Lib.cell_of_heap HN3.out 3
 have c4 : w3.cell? ⟨w.heap.size, 4, none⟩ = some (.int .i64 G.start) := Lib.cell_of_heap HN3.out 4
 have KA := hid (All_any (HGr.out.below HB3.out) (HT.out.on (HB3.out.mono hBt)) (Nat.le_trans hBt HB3.out.size))
 go_wp2_with fail
 refine KA.out.mono ?_
 rintro e w4 hap
 obtain ⟨hb4, hcase2⟩ := all_cases hap
 have HB4 := hid (HB3.out.trans (hb4.mono HB3.out.size))
 have HN4 := hid ((hb4.block _ (Array.getElem?_eq_some_iff.1 HN3.out).1).trans HN3.out)
 clear hap hb4 KA c0 c1 c2 c3 c4
 rcases hcase2 with ⟨er, her, rfl⟩ | ⟨hval, n, hok, A, lb, lf, lc, rfl, hL, hK⟩
 ·rcases her with rfl | rfl
  ·go_wp2_with fail
   go_ret
   exact ⟨rfl, HB4.out⟩
  ·go_wp2_with fail
   go_ret
   exact ⟨rfl, HB4.out⟩
 have HVAL := hid hval
 have HOK := hid hok
 have HL := hid hL
 have HKA := hid hK
 have hn0 : 0 < n := S13.X15.n_pos hok
 have hn1 : n ≤ 2000 := built_le hok
 have HCL := hid (cx_len hval n (E0 G) (F0 G))
 clear hval hok hL hK
 obtain ⟨np, hnp⟩ : ∃ np, G.prods.length = np := ⟨_, rfl⟩
 obtain ⟨pa, pc, hpv, hpn, hpx⟩ := HGA.out.prods
 rw [hnp] at hpv hpn hpx
 subst hpv
 have c0 : w4.cell? ⟨w.heap.size, 0, none⟩ = some (tv) := Lib.cell_of_heap HN4.out 0
 have c1 : w4.cell? ⟨w.heap.size, 1, none⟩ = some (ov) := Lib.cell_of_heap HN4.out 1
 have c2 : w4.cell? ⟨w.heap.size, 2, none⟩ = some (sv) := Lib.cell_of_heap HN4.out 2
 have c3 : w4.cell? ⟨w.heap.size, 3, none⟩ = some (.slice pa np pc) := Lib.cell_of_heap HN4.out 3
 have c4 : w4.cell? ⟨w.heap.size, 4, none⟩ = some (.int .i64 G.start) := Lib.cell_of_heap HN4.out 4
 have KL := hid (S13.Follow_any (HGA.out.mono HB4.out) HVAL.out)
 go_wp2_with fail
 refine KL.out.mono ?_
 rintro e w5 ⟨vb, E, F, L, rfl, hE, hF, hLv, hLh, hLs, hb5⟩
 obtain rfl : E = E0 G := hE.same (S13.e0_least HVAL.out)
 obtain rfl : F = F0 G := hF.sameN (S13.f0_least HVAL.out) (S13.evF_mono _ _ _ _)
 have HLV := hid hLv
 have HB5 := hid (HB4.out.trans (hb5.mono HB4.out.size))
 have HN5 := hid ((hb5.block _ (Array.getElem?_eq_some_iff.1 HN4.out).1).trans HN4.out)
 have HK5 := hid (HKA.out.below hb5)
 obtain ⟨ns, hns⟩ : ∃ ns, G.sorts.length = ns := ⟨_, rfl⟩
 have HNS := hid hns
 have hnsl : ns ≤ 60 := by have := valid_start HVAL.out; omega
 have HLC := hid (show ∀ i, i < ns → w5.cell? ⟨vb, i, none⟩ = some (u64 (L.getD i 0)) from fun i hi => S13.cell_sets hLh (by rw [hLv.length, hns]; exact hi))
 rw [hns]
 clear hLv hLh hLs hb5 KL hns c0 c1 c2 c3 c4 hE hF
 go_wp2_with fail
 go_loopw [8, 9, 10] (fun t8 t9 t10 wr => ∃ i : Nat, i ≤ n ∧ t8 = .int .i64 (i : Int) ∧ Hid (Below w5.heap.size w5 wr)) (fun t8 _ _ _ => n - (RowKit.intOf t8).toNat)
 case atStart => exact ⟨0, Nat.zero_le _, rfl, hid (Below.refl _ _)⟩
 case round =>
  obtain ⟨i, hin, rfl, HR⟩ := hrel
  by_cases hli : i < n
  ·have m1 : (i : Int) < (n : Int) := by omega
   have m0 : (0 : Int) ≤ (i : Int) := by omega
   obtain ⟨io, ic, ao, ac, q0, q1, -, -, hq⟩ := HK5.out i hli
   obtain ⟨N, hN⟩ : ∃ N, ((cxB G n (E0 G) (F0 G)).C i).length = N := ⟨_, rfl⟩
   have HN := hid hN
   have hNle : N ≤ 1573 := by rw [← hN]; exact HCL.out i
   rw [hN] at q0 q1
   have HQ0 := hid q0
   have HQ1 := hid q1
   have HQ := hid hq
   clear hN hq q0 q1
   go_wp2_with fail
   go_loopw [9, 10] (fun t9 t10 wr => ∃ k : Nat, k ≤ N ∧ t9 = .int .i64 (k : Int) ∧ Hid (Below w5.heap.size w5 wr)) (fun t9 _ _ => N - (RowKit.intOf t9).toNat)
   case atStart => exact ⟨0, Nat.zero_le _, rfl, HR⟩
   case round =>
    clear HR
    obtain ⟨k, hkN, rfl, HR⟩ := hrel
    have q0 := cell_below HR.out HQ0.out
    by_cases hlt : k < N
    ·have j1 : (k : Int) < (N : Int) := by omega
     have j0 : (0 : Int) ≤ (k : Int) := by omega
     obtain ⟨x, hx⟩ : ∃ x, ((cxB G n (E0 G) (F0 G)).C i)[k]? = some x := ⟨_, List.getElem?_eq_getElem (by rw [HN.out]; exact hlt)⟩
     obtain ⟨ib, jf, ab, af, rfl, x0, x1, rfl, x2⟩ := HQ.out k x hx
     have HX := hid (List.mem_of_getElem? hx)
     have hth := X14.there_iff.1 ((S13.X15.mem_C.1 HX.out).there)
     have r0 := cell_below HR.out x0
     have HX2 := hid (cell_below HR.out x2)
     clear hx x0 x1 x2
     by_cases h0 : 0 ≤ x.1
     case neg =>
      have hp : x.1 = -1 := by omega
      have hahe := S13.X15.whole_ahead HOK.out (symOk HVAL.out) (S13.f0_least HVAL.out).2.2 HL.out hli HX.out hp
      rw [hahe] at HX2
      rw [hp] at r0
      obtain ⟨wd, ewd⟩ : ∃ wd, wr.drew = wd := ⟨_, rfl⟩
      have hbd : Below wr.heap.size wr wd := by rw [← ewd]; exact (Below.refl _ _).drew
      have HRd := hid (HR.out.trans (hbd.mono HR.out.size))
      have HH0 : wd.cell? ⟨lb, lf + i * 2 + 1, none⟩ = some (.slice (some ⟨ab, af, none⟩) N ac) ∧ wd.cell? ⟨ab, af + k, none⟩ = some (.int .u64 9223372036854775808) := ⟨cell_below HRd.out HQ1.out, cell_below hbd HX2.out⟩
      obtain ⟨wl, ewl⟩ : ∃ wl, wd.alloc (.cells #[.int .i64 63] 3) = wl := ⟨_, rfl⟩
      have hbl : Below wd.heap.size wd wl := by rw [← ewl]; exact (Below.refl _ _).alloc (Nat.le_refl _) _
      have HRl := hid (HRd.out.trans (hbl.mono HRd.out.size))
      have HH1 : wl.cell? ⟨lb, lf + i * 2 + 1, none⟩ = some (.slice (some ⟨ab, af, none⟩) N ac) ∧ wl.cell? ⟨ab, af + k, none⟩ = some (.int .u64 9223372036854775808) := ⟨cell_below hbl HH0.1, cell_below hbl HH0.2⟩
      have KO := hid (S13.of63 wl wd.heap.size (Lib.cell_of_heap (show wl.heap[wd.heap.size]? = some (.cells #[.int .i64 63] 3 (0, 0)) by rw [← ewl]; exact new_block _ _) 0))
      clear hbd hbl hth
      go_wp2_with fail
      clear q0 r0
      refine region_T 39 (fun w' => w'.cell? ⟨lb, lf + i * 2 + 1, none⟩ = some (.slice (some ⟨ab, af, none⟩) N ac) ∧ w'.cell? ⟨ab, af + k, none⟩ = some (.int .u64 9223372036854775808)) (by kernel_rfl) (by rw [ewd]; exact HH0) (fun inv hHeld => ?_)
      rw [ewd]
      clear hHeld ewd
      refine anyT_take (i := 0) (oi := { dst := some 54, op := Go.Op.move (Go.Operand.tmp 10), type := 3, pos := "law.go:132", after := #[], guard := none }) (v := ?_) rfl (by kernel_rfl) (by kernel_rfl) (by kernel_rfl) (by decide) (by decide) (by kernel_rfl) (by kernel_rfl) (fun _ _ _ h => h) (Or.inl ⟨by rfl, ?_⟩) HH0 inv (fun inv => ?_)
      rotate_left
      ·intro w hSw
       try dsimp only at hSw
       go_simp
       try with_reducible rfl
      simp only [Act.put, List.setIfInBounds_toArray, List.set_cons_zero, List.set_cons_succ]
      refine anyT_take (i := 1) (oi := { dst := some 55, op := Go.Op.binOp Go.BinOp.lss 3 (Go.Operand.tmp 54) (Go.Operand.const (Go.Value.int Go.IntKind.i64 0)) 3, type := 4, pos := "law.go:132", after := #[{ on := 0, ground := Go.Ground.data }], guard := none }) (v := ?_) rfl (by kernel_rfl) (by kernel_rfl) (by kernel_rfl) (by decide) (by decide) (by kernel_rfl) (by kernel_rfl) (fun _ _ _ h => h) (Or.inl ⟨by rfl, ?_⟩) HH0 inv (fun inv => ?_)
      rotate_left
      ·intro w hSw
       try dsimp only at hSw
       go_simp
       try with_reducible rfl
      simp only [Act.put, List.setIfInBounds_toArray, List.set_cons_zero, List.set_cons_succ]
      refine anyT_take (i := 2) (oi := { dst := some 56, op := Go.Op.move (Go.Operand.tmp 55), type := 4, pos := "law.go:132", after := #[{ on := 1, ground := Go.Ground.data }], guard := none }) (v := ?_) rfl (by kernel_rfl) (by kernel_rfl) (by kernel_rfl) (by decide) (by decide) (by kernel_rfl) (by kernel_rfl) (fun _ _ _ h => h) (Or.inl ⟨by rfl, ?_⟩) HH0 inv (fun inv => ?_)
      rotate_left
      ·intro w hSw
       try dsimp only at hSw
       go_simp
       try with_reducible rfl
      simp only [Act.put, List.setIfInBounds_toArray, List.set_cons_zero, List.set_cons_succ]
      refine anyT_take (i := 3) (oi := { dst := some 57, op := Go.Op.move (Go.Operand.tmp 5), type := 30, pos := "law.go:132", after := #[{ on := 2, ground := Go.Ground.guard }], guard := some (2, true) }) (v := ?_) rfl (by kernel_rfl) (by kernel_rfl) (by kernel_rfl) (by decide) (by decide) (by kernel_rfl) (by kernel_rfl) (fun _ _ _ h => h) (Or.inl ⟨by rfl, ?_⟩) HH0 inv (fun inv => ?_)
      rotate_left
      ·intro w hSw
       try dsimp only at hSw
       go_simp
       try with_reducible rfl
      simp only [Act.put, List.setIfInBounds_toArray, List.set_cons_zero, List.set_cons_succ]
      refine anyT_take (i := 4) (oi := { dst := some 58, op := Go.Op.move (Go.Operand.tmp 8), type := 3, pos := "law.go:132", after := #[{ on := 2, ground := Go.Ground.guard }], guard := some (2, true) }) (v := ?_) rfl (by kernel_rfl) (by kernel_rfl) (by kernel_rfl) (by decide) (by decide) (by kernel_rfl) (by kernel_rfl) (fun _ _ _ h => h) (Or.inl ⟨by rfl, ?_⟩) HH0 inv (fun inv => ?_)
      rotate_left
      ·intro w hSw
       try dsimp only at hSw
       go_simp
       try with_reducible rfl
      simp only [Act.put, List.setIfInBounds_toArray, List.set_cons_zero, List.set_cons_succ]
      refine anyT_take (i := 5) (oi := { dst := some 59, op := Go.Op.indexAddr 30 (Go.Operand.tmp 57) (Go.Operand.tmp 58), type := 0, pos := "law.go:132", after := #[{ on := 3, ground := Go.Ground.data }, { on := 4, ground := Go.Ground.data }, { on := 2, ground := Go.Ground.guard }], guard := some (2, true) }) (v := ?_) rfl (by kernel_rfl) (by kernel_rfl) (by kernel_rfl) (by decide) (by decide) (by kernel_rfl) (by kernel_rfl) (fun _ _ _ h => h) (Or.inl ⟨by rfl, ?_⟩) HH0 inv (fun inv => ?_)
      rotate_left
      ·intro w hSw
       try dsimp only at hSw
       go_simp
       try with_reducible rfl
      simp only [Act.put, List.setIfInBounds_toArray, List.set_cons_zero, List.set_cons_succ]
      refine anyT_take (i := 6) (oi := { dst := some 60, op := Go.Op.fieldAddr 48 (Go.Operand.tmp 59) 1, type := 0, pos := "law.go:132", after := #[{ on := 5, ground := Go.Ground.data }, { on := 2, ground := Go.Ground.guard }], guard := some (2, true) }) (v := ?_) rfl (by kernel_rfl) (by kernel_rfl) (by kernel_rfl) (by decide) (by decide) (by kernel_rfl) (by kernel_rfl) (fun _ _ _ h => h) (Or.inl ⟨by rfl, ?_⟩) HH0 inv (fun inv => ?_)
      rotate_left
      ·intro w hSw
       try dsimp only at hSw
       go_simp
       try with_reducible rfl
      simp only [Act.put, List.setIfInBounds_toArray, List.set_cons_zero, List.set_cons_succ]
      refine anyT_take (i := 7) (oi := { dst := some 61, op := Go.Op.load 46 (Go.Operand.tmp 60), type := 46, pos := "law.go:132", after := #[{ on := 6, ground := Go.Ground.data }, { on := 2, ground := Go.Ground.guard }], guard := some (2, true) }) (v := ?_) rfl (by kernel_rfl) (by kernel_rfl) (by kernel_rfl) (by decide) (by decide) (by kernel_rfl) (by kernel_rfl) (fun _ _ _ h => h) (Or.inl ⟨by rfl, ?_⟩) HH0 inv (fun inv => ?_)
      rotate_left
      ·intro w hSw
       try dsimp only at hSw
       go_simp
       try with_reducible rfl
      simp only [Act.put, List.setIfInBounds_toArray, List.set_cons_zero, List.set_cons_succ]
      refine anyT_take (i := 8) (oi := { dst := some 62, op := Go.Op.move (Go.Operand.tmp 9), type := 3, pos := "law.go:132", after := #[{ on := 2, ground := Go.Ground.guard }], guard := some (2, true) }) (v := ?_) rfl (by kernel_rfl) (by kernel_rfl) (by kernel_rfl) (by decide) (by decide) (by kernel_rfl) (by kernel_rfl) (fun _ _ _ h => h) (Or.inl ⟨by rfl, ?_⟩) HH0 inv (fun inv => ?_)
      rotate_left
      ·intro w hSw
       try dsimp only at hSw
       go_simp
       try with_reducible rfl
      simp only [Act.put, List.setIfInBounds_toArray, List.set_cons_zero, List.set_cons_succ]
      refine anyT_take (i := 9) (oi := { dst := some 63, op := Go.Op.indexAddr 46 (Go.Operand.tmp 61) (Go.Operand.tmp 62), type := 0, pos := "law.go:132", after := #[{ on := 7, ground := Go.Ground.data }, { on := 8, ground := Go.Ground.data }, { on := 2, ground := Go.Ground.guard }], guard := some (2, true) }) (v := ?_) rfl (by kernel_rfl) (by kernel_rfl) (by kernel_rfl) (by decide) (by decide) (by kernel_rfl) (by kernel_rfl) (fun _ _ _ h => h) (Or.inl ⟨by rfl, ?_⟩) HH0 inv (fun inv => ?_)
      rotate_left
      ·intro w hSw
       try dsimp only at hSw
       go_simp
       try with_reducible rfl
      simp only [Act.put, List.setIfInBounds_toArray, List.set_cons_zero, List.set_cons_succ]
      refine anyT_take (i := 10) (oi := { dst := some 64, op := Go.Op.load 69 (Go.Operand.tmp 63), type := 69, pos := "law.go:132", after := #[{ on := 9, ground := Go.Ground.data }, { on := 2, ground := Go.Ground.guard }], guard := some (2, true) }) (v := ?_) rfl (by kernel_rfl) (by kernel_rfl) (by kernel_rfl) (by decide) (by decide) (by kernel_rfl) (by kernel_rfl) (fun _ _ _ h => h) (Or.inl ⟨by rfl, ?_⟩) HH0 inv (fun inv => ?_)
      rotate_left
      ·intro w hSw
       try dsimp only at hSw
       go_simp
       try with_reducible rfl
      simp only [Act.put, List.setIfInBounds_toArray, List.set_cons_zero, List.set_cons_succ]
      refine anyT_next (i := 11) (o := { dst := some 65, op := Go.Op.buildSlice 43 1 #[(0, Go.Operand.const (Go.Value.int Go.IntKind.i64 63))], type := 43, pos := "law.go:132", after := #[{ on := 2, ground := Go.Ground.guard }], guard := some (2, true) }) (by kernel_rfl) rfl (by decide) inv (fun inv K' hK => ?_)
      go_simp
      refine hK.out _ _ HH1 ?_
      clear hK K' HH0
      try simp only [Act.put, List.setIfInBounds_toArray, List.set_cons_zero, List.set_cons_succ]
      refine anyT_next (i := 12) (o := { dst := some 66, op := Go.Op.call { callee := Go.Callee.value (Go.Operand.func 31), args := #[Go.Operand.tmp 65], argTypes := #[43] }, type := 69, pos := "law.go:132", after := #[{ on := 11, ground := Go.Ground.data }, { on := 2, ground := Go.Ground.chain }, { on := 2, ground := Go.Ground.guard }], guard := some (2, true) }) (by kernel_rfl) rfl (by decide) inv (fun inv K' hK => ?_)
      go_simp
      refine KO.out.mono ?_
      rintro e w2 ⟨rfl, rfl⟩
      have HH2 := HH1
      refine hK.out _ _ HH2 ?_
      clear hK K' HH1
      try simp only [Act.put, List.setIfInBounds_toArray, List.set_cons_zero, List.set_cons_succ]
      refine anyT_take (i := 13) (oi := { dst := some 67, op := Go.Op.binOp Go.BinOp.neq 69 (Go.Operand.tmp 64) (Go.Operand.tmp 66) 69, type := 4, pos := "law.go:132", after := #[{ on := 10, ground := Go.Ground.data }, { on := 12, ground := Go.Ground.data }, { on := 2, ground := Go.Ground.guard }], guard := some (2, true) }) (v := ?_) rfl (by kernel_rfl) (by kernel_rfl) (by kernel_rfl) (by decide) (by decide) (by kernel_rfl) (by kernel_rfl) (fun _ _ _ h => h) (Or.inl ⟨by rfl, ?_⟩) HH2 inv (fun inv => ?_)
      rotate_left
      ·intro w hSw
       try dsimp only at hSw
       go_simp
       try with_reducible rfl
      simp only [Act.put, List.setIfInBounds_toArray, List.set_cons_zero, List.set_cons_succ]
      refine anyT_take (i := 14) (oi := { dst := some 68, op := Go.Op.pick (Go.Operand.tmp 56) (Go.Operand.tmp 67) (Go.Operand.const (Go.Value.bool false)), type := 4, pos := "law.go:132", after := #[{ on := 2, ground := Go.Ground.data }, { on := 13, ground := Go.Ground.data }], guard := none }) (v := ?_) rfl (by kernel_rfl) (by kernel_rfl) (by kernel_rfl) (by decide) (by decide) (by kernel_rfl) (by kernel_rfl) (fun _ _ _ h => h) (Or.inl ⟨by rfl, ?_⟩) HH2 inv (fun inv => ?_)
      rotate_left
      ·intro w hSw
       try dsimp only at hSw
       go_simp
       try with_reducible rfl
      simp only [Act.put, List.setIfInBounds_toArray, List.set_cons_zero, List.set_cons_succ]
      refine anyT_take (i := 15) (oi := { dst := some 69, op := Go.Op.move (Go.Operand.tmp 68), type := 4, pos := "law.go:132", after := #[{ on := 14, ground := Go.Ground.data }, { on := 12, ground := Go.Ground.chain }], guard := none }) (v := ?_) rfl (by kernel_rfl) (by kernel_rfl) (by kernel_rfl) (by decide) (by decide) (by kernel_rfl) (by kernel_rfl) (fun _ _ _ h => h) (Or.inl ⟨by rfl, ?_⟩) HH2 inv (fun inv => ?_)
      rotate_left
      ·intro w hSw
       try dsimp only at hSw
       go_simp
       try with_reducible rfl
      simp only [Act.put, List.setIfInBounds_toArray, List.set_cons_zero, List.set_cons_succ]
      refine anyT_take (i := 16) (oi := { dst := some 70, op := Go.Op.move (Go.Operand.tmp 10), type := 3, pos := "law.go:132", after := #[{ on := 15, ground := Go.Ground.guard }], guard := some (15, false) }) (v := ?_) rfl (by kernel_rfl) (by kernel_rfl) (by kernel_rfl) (by decide) (by decide) (by kernel_rfl) (by kernel_rfl) (fun _ _ _ h => h) (Or.inl ⟨by rfl, ?_⟩) HH2 inv (fun inv => ?_)
      rotate_left
      ·intro w hSw
       try dsimp only at hSw
       go_simp
       try with_reducible rfl
      simp only [Act.put, List.setIfInBounds_toArray, List.set_cons_zero, List.set_cons_succ]
      refine anyT_take (i := 17) (oi := { dst := some 71, op := Go.Op.binOp Go.BinOp.geq 3 (Go.Operand.tmp 70) (Go.Operand.const (Go.Value.int Go.IntKind.i64 0)) 3, type := 4, pos := "law.go:132", after := #[{ on := 16, ground := Go.Ground.data }, { on := 15, ground := Go.Ground.guard }], guard := some (15, false) }) (v := ?_) rfl (by kernel_rfl) (by kernel_rfl) (by kernel_rfl) (by decide) (by decide) (by kernel_rfl) (by kernel_rfl) (fun _ _ _ h => h) (Or.inl ⟨by rfl, ?_⟩) HH2 inv (fun inv => ?_)
      rotate_left
      ·intro w hSw
       try dsimp only at hSw
       go_simp
       try with_reducible rfl
      simp only [Act.put, List.setIfInBounds_toArray, List.set_cons_zero, List.set_cons_succ]
      refine anyT_take (i := 18) (oi := { dst := some 72, op := Go.Op.move (Go.Operand.tmp 71), type := 4, pos := "law.go:132", after := #[{ on := 17, ground := Go.Ground.data }, { on := 15, ground := Go.Ground.chain }, { on := 15, ground := Go.Ground.guard }], guard := some (15, false) }) (v := ?_) rfl (by kernel_rfl) (by kernel_rfl) (by kernel_rfl) (by decide) (by decide) (by kernel_rfl) (by kernel_rfl) (fun _ _ _ h => h) (Or.inl ⟨by rfl, ?_⟩) HH2 inv (fun inv => ?_)
      rotate_left
      ·intro w hSw
       try dsimp only at hSw
       go_simp
       try with_reducible rfl
      simp only [Act.put, List.setIfInBounds_toArray, List.set_cons_zero, List.set_cons_succ]
      refine anyT_take (i := 19) (oi := { dst := some 73, op := Go.Op.move (Go.Operand.tmp 5), type := 30, pos := "law.go:132", after := #[{ on := 18, ground := Go.Ground.guard }], guard := some (18, true) }) (v := undef) rfl (by kernel_rfl) (by kernel_rfl) (by kernel_rfl) (by decide) (by decide) (by kernel_rfl) (by kernel_rfl) (fun _ _ _ h => h) (Or.inr ⟨by rfl, rfl⟩) HH2 inv (fun inv => ?_)
      simp only [Act.put, List.setIfInBounds_toArray, List.set_cons_zero, List.set_cons_succ]
      refine anyT_take (i := 20) (oi := { dst := some 74, op := Go.Op.move (Go.Operand.tmp 8), type := 3, pos := "law.go:132", after := #[{ on := 18, ground := Go.Ground.guard }], guard := some (18, true) }) (v := undef) rfl (by kernel_rfl) (by kernel_rfl) (by kernel_rfl) (by decide) (by decide) (by kernel_rfl) (by kernel_rfl) (fun _ _ _ h => h) (Or.inr ⟨by rfl, rfl⟩) HH2 inv (fun inv => ?_)
      simp only [Act.put, List.setIfInBounds_toArray, List.set_cons_zero, List.set_cons_succ]
      refine anyT_take (i := 21) (oi := { dst := some 75, op := Go.Op.indexAddr 30 (Go.Operand.tmp 73) (Go.Operand.tmp 74), type := 0, pos := "law.go:132", after := #[{ on := 19, ground := Go.Ground.data }, { on := 20, ground := Go.Ground.data }, { on := 18, ground := Go.Ground.guard }], guard := some (18, true) }) (v := undef) rfl (by kernel_rfl) (by kernel_rfl) (by kernel_rfl) (by decide) (by decide) (by kernel_rfl) (by kernel_rfl) (fun _ _ _ h => h) (Or.inr ⟨by rfl, rfl⟩) HH2 inv (fun inv => ?_)
      simp only [Act.put, List.setIfInBounds_toArray, List.set_cons_zero, List.set_cons_succ]
      refine anyT_take (i := 22) (oi := { dst := some 76, op := Go.Op.fieldAddr 48 (Go.Operand.tmp 75) 1, type := 0, pos := "law.go:132", after := #[{ on := 21, ground := Go.Ground.data }, { on := 18, ground := Go.Ground.guard }], guard := some (18, true) }) (v := undef) rfl (by kernel_rfl) (by kernel_rfl) (by kernel_rfl) (by decide) (by decide) (by kernel_rfl) (by kernel_rfl) (fun _ _ _ h => h) (Or.inr ⟨by rfl, rfl⟩) HH2 inv (fun inv => ?_)
      simp only [Act.put, List.setIfInBounds_toArray, List.set_cons_zero, List.set_cons_succ]
      refine anyT_take (i := 23) (oi := { dst := some 77, op := Go.Op.load 46 (Go.Operand.tmp 76), type := 46, pos := "law.go:132", after := #[{ on := 22, ground := Go.Ground.data }, { on := 18, ground := Go.Ground.guard }], guard := some (18, true) }) (v := undef) rfl (by kernel_rfl) (by kernel_rfl) (by kernel_rfl) (by decide) (by decide) (by kernel_rfl) (by kernel_rfl) (fun _ _ _ h => h) (Or.inr ⟨by rfl, rfl⟩) HH2 inv (fun inv => ?_)
      simp only [Act.put, List.setIfInBounds_toArray, List.set_cons_zero, List.set_cons_succ]
      refine anyT_take (i := 24) (oi := { dst := some 78, op := Go.Op.move (Go.Operand.tmp 9), type := 3, pos := "law.go:132", after := #[{ on := 18, ground := Go.Ground.guard }], guard := some (18, true) }) (v := undef) rfl (by kernel_rfl) (by kernel_rfl) (by kernel_rfl) (by decide) (by decide) (by kernel_rfl) (by kernel_rfl) (fun _ _ _ h => h) (Or.inr ⟨by rfl, rfl⟩) HH2 inv (fun inv => ?_)
      simp only [Act.put, List.setIfInBounds_toArray, List.set_cons_zero, List.set_cons_succ]
      refine anyT_take (i := 25) (oi := { dst := some 79, op := Go.Op.indexAddr 46 (Go.Operand.tmp 77) (Go.Operand.tmp 78), type := 0, pos := "law.go:132", after := #[{ on := 23, ground := Go.Ground.data }, { on := 24, ground := Go.Ground.data }, { on := 18, ground := Go.Ground.guard }], guard := some (18, true) }) (v := undef) rfl (by kernel_rfl) (by kernel_rfl) (by kernel_rfl) (by decide) (by decide) (by kernel_rfl) (by kernel_rfl) (fun _ _ _ h => h) (Or.inr ⟨by rfl, rfl⟩) HH2 inv (fun inv => ?_)
      simp only [Act.put, List.setIfInBounds_toArray, List.set_cons_zero, List.set_cons_succ]
      refine anyT_take (i := 26) (oi := { dst := some 80, op := Go.Op.load 69 (Go.Operand.tmp 79), type := 69, pos := "law.go:132", after := #[{ on := 25, ground := Go.Ground.data }, { on := 18, ground := Go.Ground.guard }], guard := some (18, true) }) (v := undef) rfl (by kernel_rfl) (by kernel_rfl) (by kernel_rfl) (by decide) (by decide) (by kernel_rfl) (by kernel_rfl) (fun _ _ _ h => h) (Or.inr ⟨by rfl, rfl⟩) HH2 inv (fun inv => ?_)
      simp only [Act.put, List.setIfInBounds_toArray, List.set_cons_zero, List.set_cons_succ]
      refine anyT_take (i := 27) (oi := { dst := some 81, op := Go.Op.move (Go.Operand.tmp 7), type := 46, pos := "law.go:132", after := #[{ on := 18, ground := Go.Ground.guard }], guard := some (18, true) }) (v := undef) rfl (by kernel_rfl) (by kernel_rfl) (by kernel_rfl) (by decide) (by decide) (by kernel_rfl) (by kernel_rfl) (fun _ _ _ h => h) (Or.inr ⟨by rfl, rfl⟩) HH2 inv (fun inv => ?_)
      simp only [Act.put, List.setIfInBounds_toArray, List.set_cons_zero, List.set_cons_succ]
      refine anyT_take (i := 28) (oi := { dst := some 82, op := Go.Op.fieldAddr 27 (Go.Operand.tmp 1) 3, type := 0, pos := "law.go:132", after := #[{ on := 18, ground := Go.Ground.guard }], guard := some (18, true) }) (v := undef) rfl (by kernel_rfl) (by kernel_rfl) (by kernel_rfl) (by decide) (by decide) (by kernel_rfl) (by kernel_rfl) (fun _ _ _ h => h) (Or.inr ⟨by rfl, rfl⟩) HH2 inv (fun inv => ?_)
      simp only [Act.put, List.setIfInBounds_toArray, List.set_cons_zero, List.set_cons_succ]
      refine anyT_take (i := 29) (oi := { dst := some 83, op := Go.Op.load 25 (Go.Operand.tmp 82), type := 25, pos := "law.go:132", after := #[{ on := 28, ground := Go.Ground.data }, { on := 18, ground := Go.Ground.guard }], guard := some (18, true) }) (v := undef) rfl (by kernel_rfl) (by kernel_rfl) (by kernel_rfl) (by decide) (by decide) (by kernel_rfl) (by kernel_rfl) (fun _ _ _ h => h) (Or.inr ⟨by rfl, rfl⟩) HH2 inv (fun inv => ?_)
      simp only [Act.put, List.setIfInBounds_toArray, List.set_cons_zero, List.set_cons_succ]
      refine anyT_take (i := 30) (oi := { dst := some 84, op := Go.Op.move (Go.Operand.tmp 10), type := 3, pos := "law.go:132", after := #[{ on := 18, ground := Go.Ground.guard }], guard := some (18, true) }) (v := undef) rfl (by kernel_rfl) (by kernel_rfl) (by kernel_rfl) (by decide) (by decide) (by kernel_rfl) (by kernel_rfl) (fun _ _ _ h => h) (Or.inr ⟨by rfl, rfl⟩) HH2 inv (fun inv => ?_)
      simp only [Act.put, List.setIfInBounds_toArray, List.set_cons_zero, List.set_cons_succ]
      refine anyT_take (i := 31) (oi := { dst := some 85, op := Go.Op.indexAddr 25 (Go.Operand.tmp 83) (Go.Operand.tmp 84), type := 0, pos := "law.go:132", after := #[{ on := 29, ground := Go.Ground.data }, { on := 30, ground := Go.Ground.data }, { on := 18, ground := Go.Ground.guard }], guard := some (18, true) }) (v := undef) rfl (by kernel_rfl) (by kernel_rfl) (by kernel_rfl) (by decide) (by decide) (by kernel_rfl) (by kernel_rfl) (fun _ _ _ h => h) (Or.inr ⟨by rfl, rfl⟩) HH2 inv (fun inv => ?_)
      simp only [Act.put, List.setIfInBounds_toArray, List.set_cons_zero, List.set_cons_succ]
      refine anyT_take (i := 32) (oi := { dst := some 86, op := Go.Op.fieldAddr 71 (Go.Operand.tmp 85) 1, type := 0, pos := "law.go:132", after := #[{ on := 31, ground := Go.Ground.data }, { on := 18, ground := Go.Ground.guard }], guard := some (18, true) }) (v := undef) rfl (by kernel_rfl) (by kernel_rfl) (by kernel_rfl) (by decide) (by decide) (by kernel_rfl) (by kernel_rfl) (fun _ _ _ h => h) (Or.inr ⟨by rfl, rfl⟩) HH2 inv (fun inv => ?_)
      simp only [Act.put, List.setIfInBounds_toArray, List.set_cons_zero, List.set_cons_succ]
      refine anyT_take (i := 33) (oi := { dst := some 87, op := Go.Op.load 3 (Go.Operand.tmp 86), type := 3, pos := "law.go:132", after := #[{ on := 32, ground := Go.Ground.data }, { on := 18, ground := Go.Ground.guard }], guard := some (18, true) }) (v := undef) rfl (by kernel_rfl) (by kernel_rfl) (by kernel_rfl) (by decide) (by decide) (by kernel_rfl) (by kernel_rfl) (fun _ _ _ h => h) (Or.inr ⟨by rfl, rfl⟩) HH2 inv (fun inv => ?_)
      simp only [Act.put, List.setIfInBounds_toArray, List.set_cons_zero, List.set_cons_succ]
      refine anyT_take (i := 34) (oi := { dst := some 88, op := Go.Op.indexAddr 46 (Go.Operand.tmp 81) (Go.Operand.tmp 87), type := 0, pos := "law.go:132", after := #[{ on := 27, ground := Go.Ground.data }, { on := 33, ground := Go.Ground.data }, { on := 18, ground := Go.Ground.guard }], guard := some (18, true) }) (v := undef) rfl (by kernel_rfl) (by kernel_rfl) (by kernel_rfl) (by decide) (by decide) (by kernel_rfl) (by kernel_rfl) (fun _ _ _ h => h) (Or.inr ⟨by rfl, rfl⟩) HH2 inv (fun inv => ?_)
      simp only [Act.put, List.setIfInBounds_toArray, List.set_cons_zero, List.set_cons_succ]
      refine anyT_take (i := 35) (oi := { dst := some 89, op := Go.Op.load 69 (Go.Operand.tmp 88), type := 69, pos := "law.go:132", after := #[{ on := 34, ground := Go.Ground.data }, { on := 18, ground := Go.Ground.guard }], guard := some (18, true) }) (v := undef) rfl (by kernel_rfl) (by kernel_rfl) (by kernel_rfl) (by decide) (by decide) (by kernel_rfl) (by kernel_rfl) (fun _ _ _ h => h) (Or.inr ⟨by rfl, rfl⟩) HH2 inv (fun inv => ?_)
      simp only [Act.put, List.setIfInBounds_toArray, List.set_cons_zero, List.set_cons_succ]
      refine anyT_take (i := 36) (oi := { dst := some 90, op := Go.Op.call { callee := Go.Callee.value (Go.Operand.func 28), args := #[Go.Operand.tmp 80, Go.Operand.tmp 89], argTypes := #[69, 69] }, type := 4, pos := "law.go:132", after := #[{ on := 26, ground := Go.Ground.data }, { on := 35, ground := Go.Ground.data }, { on := 18, ground := Go.Ground.chain }, { on := 18, ground := Go.Ground.guard }], guard := some (18, true) }) (v := undef) rfl (by kernel_rfl) (by kernel_rfl) (by kernel_rfl) (by decide) (by decide) (by kernel_rfl) (by kernel_rfl) (fun _ _ _ h => h) (Or.inr ⟨by rfl, rfl⟩) HH2 inv (fun inv => ?_)
      simp only [Act.put, List.setIfInBounds_toArray, List.set_cons_zero, List.set_cons_succ]
      refine anyT_take (i := 37) (oi := { dst := some 91, op := Go.Op.unOp Go.UnOp.not 4 (Go.Operand.tmp 90), type := 4, pos := "law.go:132", after := #[{ on := 36, ground := Go.Ground.data }, { on := 18, ground := Go.Ground.guard }], guard := some (18, true) }) (v := undef) rfl (by kernel_rfl) (by kernel_rfl) (by kernel_rfl) (by decide) (by decide) (by kernel_rfl) (by kernel_rfl) (fun _ _ _ h => h) (Or.inr ⟨by rfl, rfl⟩) HH2 inv (fun inv => ?_)
      simp only [Act.put, List.setIfInBounds_toArray, List.set_cons_zero, List.set_cons_succ]
      refine anyT_take (i := 38) (oi := { dst := some 92, op := Go.Op.pick (Go.Operand.tmp 72) (Go.Operand.tmp 91) (Go.Operand.const (Go.Value.bool false)), type := 4, pos := "law.go:132", after := #[{ on := 18, ground := Go.Ground.data }, { on := 37, ground := Go.Ground.data }, { on := 15, ground := Go.Ground.guard }], guard := some (15, false) }) (v := ?_) rfl (by kernel_rfl) (by kernel_rfl) (by kernel_rfl) (by decide) (by decide) (by kernel_rfl) (by kernel_rfl) (fun _ _ _ h => h) (Or.inl ⟨by rfl, ?_⟩) HH2 inv (fun inv => ?_)
      rotate_left
      ·intro w hSw
       try dsimp only at hSw
       go_simp
       try with_reducible rfl
      simp only [Act.put, List.setIfInBounds_toArray, List.set_cons_zero, List.set_cons_succ]
      refine anyT_one (i := 39) (o := { dst := some 93, op := Go.Op.pick (Go.Operand.tmp 69) (Go.Operand.const (Go.Value.bool true)) (Go.Operand.tmp 92), type := 4, pos := "law.go:132", after := #[{ on := 15, ground := Go.Ground.data }, { on := 38, ground := Go.Ground.data }], guard := none }) (by kernel_rfl) rfl (fun K' hK => ?_)
      go_simp
      refine hK.out _ _ (fun h => absurd h (by decide)) ?_
      clear hK K'
      try simp only [Act.put, List.setIfInBounds_toArray, List.set_cons_zero, List.set_cons_succ]
      refine anyT_done (by kernel_rfl) ?_ _
      go_wp2_with fail
      refine ⟨⟨k + 1, by omega, by go_num, HRl⟩, ?_⟩
      simp [RowKit.intOf]
      omega
     obtain ⟨q, hq⟩ : ∃ q : Nat, x.1 = (q : Int) := ⟨x.1.toNat, by omega⟩
     have hql : q < G.prods.length := by omega
     obtain ⟨pb, po, rfl, hpq⟩ := hpx (by omega)
     obtain ⟨_, p1, _, _⟩ := hpq q (by omega)
     have hsr := S13.valid_rows HVAL.out (G.prods.getD q default) (by rw [List.getD_eq_getElem?_getD, List.getElem?_eq_getElem hql]; exact List.getElem_mem _)
     obtain ⟨st, hst⟩ : ∃ st : Nat, (G.prods.getD q default).sort = (st : Int) := ⟨(G.prods.getD q default).sort.toNat, by omega⟩
     rw [hst] at p1
     have hstn : st < ns := by have := HNS.out; omega
     have hsub := S13.X15.ahead_follows HVAL.out (S13.f0_least HVAL.out).length HL.out HLV.out hli HX.out h0
     rw [hq, show sortX G ((q : Nat) : Int).toNat = (st : Int) from hst, show ((st : Int)).toNat = st from rfl] at hsub
     have hlo := HL.out.low (i, x)
     have hlw : L.getD st 0 < top := S13.getD_lt HLV.out.2.2 st
     have hin2 : S13.inN (A (i, x)) (L.getD st 0) = true := decide_eq_true ((S13.lessN_zero_iff hlo).2 fun j _ hj => S13.sub_iff.1 hsub j hj)
     have KH := hid (show ∀ w', Below wr.heap.size wr w' → Calls Tryz.prog 28 #[uv (A (i, x)), uv (L.getD st 0)] w' fun e w'' => e = .returned (.bool true) ∧ Below w'.heap.size w' w'' from fun w' hC => (S13.In_any (A (i, x)) (L.getD st 0) hlo hlw w').mono fun e w'' ⟨h1, h2⟩ => ⟨by rw [h1, hin2], by rw [← h2]; exact Below.refl _ _⟩)
     obtain ⟨av, hav⟩ : ∃ av, A (i, x) = av := ⟨_, rfl⟩
     obtain ⟨lv, hlv⟩ : ∃ lv, L.getD st 0 = lv := ⟨_, rfl⟩
     have G4 := HLC.out st hstn
     rw [hlv] at G4 KH
     rw [hav] at HX2 KH
     have Z0 := hid (show ∀ w', Below wr.heap.size wr w' → w'.cell? ⟨lb, lf + i * 2 + 1, none⟩ = some (.slice (some ⟨ab, af, none⟩) N ac) from fun w' hC => cell_below hC (cell_below HR.out HQ1.out))
     have Z1 := hid (show ∀ w', Below wr.heap.size wr w' → w'.cell? ⟨ab, af + k, none⟩ = some (uv av) from fun w' hC => cell_below hC HX2.out)
     have Z2 := hid (show ∀ w', Below wr.heap.size wr w' → w'.cell? ⟨w.heap.size, 3, none⟩ = some (.slice (some ⟨pb, po, none⟩) np pc) from fun w' hC => cell_below hC (cell_below HR.out (Lib.cell_of_heap HN5.out 3)))
     have Z3 := hid (show ∀ w', Below wr.heap.size wr w' → w'.cell? ⟨pb, po + q * 4 + 1, none⟩ = some (.int .i64 (st : Int)) from fun w' hC => cell_below hC (cell_below (HB5.out.trans (HR.out.mono HB5.out.size)) p1))
     have Z4 := hid (show ∀ w', Below wr.heap.size wr w' → w'.cell? ⟨vb, st, none⟩ = some (uv lv) from fun w' hC => cell_below hC (cell_below HR.out G4))
     rw [hq] at r0
     have q0' : (0 : Int) ≤ (q : Int) := by omega
     have q1' : (q : Int) < (np : Int) := by omega
     have s0' : (0 : Int) ≤ (st : Int) := by omega
     have s1' : (st : Int) < (ns : Int) := by omega
     have g1 : decide ((0 : Int) ≤ (q : Int)) = true := decide_eq_true q0'
     have g2 : decide ((q : Int) < (0 : Int)) = false := decide_eq_false (by omega)
     clear hpq p1 hsr hst hsub hlo hlw hin2 hav hlv G4 hth h0
     go_wp2_with fail
     clear q0 r0
     refine wp_region_below (by kernel_rfl) (by kernel_rfl) ?_
     iterate 3
      with_reducible refine BigFrame.wpQuiet_want (by kernel_rfl) (fun K hK => ?_)
      apply Exists.intro
      refine ⟨fun w' hC => ?_, hK _ ?_⟩
      ·unfold Oper.quietAt
       go_simp
       first | with_reducible rfl | done
      clear hK K
      try simp only [Act.put, List.setIfInBounds_toArray, List.set_cons_zero, List.set_cons_succ]
     iterate 11
      with_reducible refine BigFrame.wpQuiet_skip (by kernel_rfl) ?_
      try simp only [Act.put, List.setIfInBounds_toArray, List.set_cons_zero, List.set_cons_succ]
     iterate 9
      with_reducible refine BigFrame.wpQuiet_want (by kernel_rfl) (fun K hK => ?_)
      apply Exists.intro
      refine ⟨fun w' hC => ?_, hK _ ?_⟩
      ·unfold Oper.quietAt
       go_simp
       first | with_reducible rfl | done
      clear hK K
      try simp only [Act.put, List.setIfInBounds_toArray, List.set_cons_zero, List.set_cons_succ]
     with_reducible refine BigFrame.wpQuiet_want (by kernel_rfl) (fun K hK => ?_)
     apply Exists.intro
     refine ⟨fun w' hC => ?_, hK _ ?_⟩
     ·have f0' := Z0.out w' hC
      have f1' := Z1.out w' hC
      have f2' := Z2.out w' hC
      have f3' := Z3.out w' hC
      have f4' := Z4.out w' hC
      unfold Oper.quietAt
      go_simp
      first | with_reducible rfl | done
     clear hK K
     try simp only [Act.put, List.setIfInBounds_toArray, List.set_cons_zero, List.set_cons_succ]
     iterate 2
      with_reducible refine BigFrame.wpQuiet_want (by kernel_rfl) (fun K hK => ?_)
      apply Exists.intro
      refine ⟨fun w' hC => ?_, hK _ ?_⟩
      ·unfold Oper.quietAt
       go_simp
       first | with_reducible rfl | done
      clear hK K
      try simp only [Act.put, List.setIfInBounds_toArray, List.set_cons_zero, List.set_cons_succ]
     with_reducible refine BigFrame.wpQuiet_want (by kernel_rfl) (fun K hK => ?_)
     apply Exists.intro
     refine ⟨fun w' hC => ?_, hK _ ?_⟩
     ·have f0' := Z0.out w' hC
      have f1' := Z1.out w' hC
      have f2' := Z2.out w' hC
      have f3' := Z3.out w' hC
      have f4' := Z4.out w' hC
      unfold Oper.quietAt
      go_simp
      first | with_reducible rfl | done
     clear hK K
     try simp only [Act.put, List.setIfInBounds_toArray, List.set_cons_zero, List.set_cons_succ]
     iterate 2
      with_reducible refine BigFrame.wpQuiet_want (by kernel_rfl) (fun K hK => ?_)
      apply Exists.intro
      refine ⟨fun w' hC => ?_, hK _ ?_⟩
      ·unfold Oper.quietAt
       go_simp
       first | with_reducible rfl | done
      clear hK K
      try simp only [Act.put, List.setIfInBounds_toArray, List.set_cons_zero, List.set_cons_succ]
     with_reducible refine BigFrame.wpQuiet_want (by kernel_rfl) (fun K hK => ?_)
     apply Exists.intro
     refine ⟨fun w' hC => ?_, hK _ ?_⟩
     ·have f0' := Z0.out w' hC
      have f1' := Z1.out w' hC
      have f2' := Z2.out w' hC
      have f3' := Z3.out w' hC
      have f4' := Z4.out w' hC
      unfold Oper.quietAt
      go_simp
      first | with_reducible rfl | done
     clear hK K
     try simp only [Act.put, List.setIfInBounds_toArray, List.set_cons_zero, List.set_cons_succ]
     iterate 3
      with_reducible refine BigFrame.wpQuiet_want (by kernel_rfl) (fun K hK => ?_)
      apply Exists.intro
      refine ⟨fun w' hC => ?_, hK _ ?_⟩
      ·unfold Oper.quietAt
       go_simp
       first | with_reducible rfl | done
      clear hK K
      try simp only [Act.put, List.setIfInBounds_toArray, List.set_cons_zero, List.set_cons_succ]
     with_reducible refine BigFrame.wpQuiet_want (by kernel_rfl) (fun K hK => ?_)
     apply Exists.intro
     refine ⟨fun w' hC => ?_, hK _ ?_⟩
     ·have f0' := Z0.out w' hC
      have f1' := Z1.out w' hC
      have f2' := Z2.out w' hC
      have f3' := Z3.out w' hC
      have f4' := Z4.out w' hC
      unfold Oper.quietAt
      go_simp
      first | with_reducible rfl | done
     clear hK K
     try simp only [Act.put, List.setIfInBounds_toArray, List.set_cons_zero, List.set_cons_succ]
     with_reducible refine BigFrame.wpQuiet_want (by kernel_rfl) (fun K hK => ?_)
     apply Exists.intro
     refine ⟨fun w' hC => ?_, hK _ ?_⟩
     ·unfold Oper.quietAt
      go_simp
      first | with_reducible rfl | done
     clear hK K
     try simp only [Act.put, List.setIfInBounds_toArray, List.set_cons_zero, List.set_cons_succ]
     with_reducible refine BigFrame.wpQuiet_want (by kernel_rfl) (fun K hK => ?_)
     apply Exists.intro
     refine ⟨fun w' hC => ?_, hK _ ?_⟩
     ·have f0' := Z0.out w' hC
      have f1' := Z1.out w' hC
      have f2' := Z2.out w' hC
      have f3' := Z3.out w' hC
      have f4' := Z4.out w' hC
      unfold Oper.quietAt
      go_simp
      first | with_reducible rfl | done
     clear hK K
     try simp only [Act.put, List.setIfInBounds_toArray, List.set_cons_zero, List.set_cons_succ]
     with_reducible refine BigFrame.wpQuiet_want (by kernel_rfl) (fun K hK => ?_)
     apply Exists.intro
     refine ⟨fun w' hC => ?_, hK _ ?_⟩
     ·unfold Oper.quietAt
      go_simp
      first
        | with_reducible exact below_call hC (Nat.le_refl _) (KH.out w' hC)
     clear hK K
     try simp only [Act.put, List.setIfInBounds_toArray, List.set_cons_zero, List.set_cons_succ]
     iterate 3
      with_reducible refine BigFrame.wpQuiet_want (by kernel_rfl) (fun K hK => ?_)
      apply Exists.intro
      refine ⟨fun w' hC => ?_, hK _ ?_⟩
      ·unfold Oper.quietAt
       go_simp
       first | with_reducible rfl | done
      clear hK K
      try simp only [Act.put, List.setIfInBounds_toArray, List.set_cons_zero, List.set_cons_succ]
     refine wpQuiet_nil ?_
     intro w6 hb6
     have HF6 := hid (HR.out.trans (hb6.mono HR.out.size))
     clear hb6
     go_wp2_with fail
     refine ⟨⟨k + 1, by omega, by go_num, HF6⟩, ?_⟩
     simp [RowKit.intOf]
     omega
    ·have j1 : ¬ (k : Int) < (N : Int) := by omega
     go_wp2_with fail
     refine ⟨⟨i + 1, by omega, by go_num, HR⟩, ?_⟩
     simp [RowKit.intOf]
     omega
  ·have m1 : ¬ (i : Int) < (n : Int) := by omega
   go_wp2_with fail
   go_ret
   exact ⟨rfl, HB5.out.trans (HR.out.mono HB5.out.size)⟩
end Go.Proofs.YticmnfmijdgmbaaGreatDoor
