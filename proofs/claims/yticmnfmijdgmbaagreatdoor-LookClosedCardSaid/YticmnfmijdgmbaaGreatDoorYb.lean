/- What All answers, for a law; the walk of LookBegins. -/
import Derived.Test.YticmnfmijdgmbaaGreatDoorXt
import Derived.Test.YticmnfmijdgmbaaGreatDoorTf
namespace Go.Proofs.YticmnfmijdgmbaaGreatDoor
open Go Go.RowKit Go.Lib
open X14 (It exG closeX iterB BuiltOk BuiltMany rightX behX sortX)
open S13 (u64 bitN top E0 F0 Sub hasN)
open S13.X15 (Pl LeastA askX places cxB)
set_option linter.unusedVariables false
set_option linter.unusedSimpArgs false
theorem built_le {G : GD} {n : Nat} (h : BuiltOk G n) : n ≤ 2000 := by
 have := h.1.le
 rw [h.inv.2.2] at this
 exact this
abbrev uv (n : Nat) : Value := .int .u64 (n : Int)
def LookR (w : World) (lb lf n : Nat) (C : Nat → List It) (A : Pl → Nat) : Prop := ∀ i, i < n → ∃ io ic ao ac, w.cell? ⟨lb, lf + i * 2, none⟩ = some (.slice io (C i).length ic) ∧ w.cell? ⟨lb, lf + i * 2 + 1, none⟩ = some (.slice ao (C i).length ac) ∧
 ItemsAt w (.slice io (C i).length ic) (C i) ∧ U64s w (.slice ao (C i).length ac) ((C i).map fun x => A (i, x)) ∧ ∀ k x, (C i)[k]? = some x → ∃ ib jf ab af, io = some ⟨ib, jf, none⟩ ∧ w.cell? ⟨ib, jf + k * 2, none⟩ = some (.int .i64 x.1) ∧ w.cell? ⟨ib, jf + k * 2 + 1, none⟩ = some (.int .i64 x.2) ∧ ao = some ⟨ab, af, none⟩ ∧ w.cell? ⟨ab, af + k, none⟩ = some (u64 (A (i, x)))
theorem look_r {w : World} {v : Value} {n : Nat} {C : Nat → List It} {A : Pl → Nat} (h : LookAt w v n C A) (hn : 0 < n) : ∃ lb lf lc, v = .slice (some ⟨lb, lf, none⟩) n lc ∧ LookR w lb lf n C A := by
 obtain ⟨o, lc, rfl, _, h⟩ := h
 obtain ⟨lb, lf, rfl, h0⟩ := h hn
 refine ⟨lb, lf, lc, rfl, fun i hi => ?_⟩
 obtain ⟨iv, av, h1, h2, h3, h4⟩ := h0 i hi
 obtain ⟨io, ic, rfl, _, hix⟩ := id h3
 obtain ⟨ao, ac, hav, _, hax⟩ := id h4
 rw [List.length_map] at hav hax
 subst hav
 refine ⟨io, ic, ao, ac, h1, h2, h3, h4, fun k x hk => ?_⟩
 have hkl := (List.getElem?_eq_some_iff.1 hk).1
 obtain ⟨ib, jf, rfl, hi2⟩ := hix (by omega)
 obtain ⟨ab, af, rfl, ha2⟩ := hax (by omega)
 have e1 : w.cell? ⟨ib, jf + k * 2, none⟩ = some (.int .i64 ((C i).getD k (0, 0)).1) ∧ w.cell? ⟨ib, jf + k * 2 + 1, none⟩ = some (.int .i64 ((C i).getD k (0, 0)).2) := hi2 k hkl
 have e2 : w.cell? ⟨ab, af + k, none⟩ = some (u64 (((C i).map fun x => A (i, x)).getD k 0)) := ha2 k hkl
 rw [X14.getD_get hk] at e1
 have e3 : ((C i).map fun x => A (i, x)).getD k 0 = A (i, x) := by
  refine X14.getD_get ?_
  rw [List.getElem?_map, hk]
  rfl
 rw [e3] at e2
 exact ⟨ib, jf, ab, af, rfl, e1.1, e1.2, rfl, e2⟩
theorem LookR.below {w w' : World} {lb lf n : Nat} {C : Nat → List It} {A : Pl → Nat} (h : LookR w lb lf n C A) (hb : Below w.heap.size w w') : LookR w' lb lf n C A := fun i hi => by
 obtain ⟨io, ic, ao, ac, h1, h2, h3, h4, h5⟩ := h i hi
 refine ⟨io, ic, ao, ac, cell_below hb h1, cell_below hb h2, h3.below hb, h4.below hb, fun k x hk => ?_⟩
 obtain ⟨ib, jf, ab, af, e1, e2, e3, e4, e5⟩ := h5 k x hk
 exact ⟨ib, jf, ab, af, e1, cell_below hb e2, cell_below hb e3, e4, cell_below hb e5⟩
theorem all_cases {G : GD} {w w' : World} {e : Ending} (h : AllP G w e w') : Below w.heap.size w w' ∧ ((∃ er : Int, (er = 1 ∨ er = 4) ∧ e = .returned (.tuple #[.slice none 0 0, .int .i64 er])) ∨ (validB G = true ∧ ∃ n, BuiltOk G n ∧ ∃ A lb lf lc, e = .returned (.tuple #[.slice (some ⟨lb, lf, none⟩) n lc, .int .i64 0]) ∧
  LeastA (askX (cxB G n (E0 G) (F0 G))) (places (cxB G n (E0 G) (F0 G)) n) (0, (-1, 0)) (bitN 63) A ∧ LookR w' lb lf n (cxB G n (E0 G) (F0 G)).C A)) := by
 obtain ⟨hb, ⟨_, h⟩ | ⟨hv, n, ⟨_, h⟩ | ⟨h, v, A, e1, h2, h3⟩⟩⟩ := h
 ·exact ⟨hb, .inl ⟨1, .inl rfl, h⟩⟩
 ·exact ⟨hb, .inl ⟨4, .inr rfl, h⟩⟩
 ·obtain ⟨lb, lf, lc, rfl, h4⟩ := look_r h3 (S13.X15.n_pos h)
  exact ⟨hb, .inr ⟨hv, n, h, A, lb, lf, lc, e1, h2, h4⟩⟩
theorem first_zero {G : GD} {n : Nat} {E : List Bool} {F : List Nat} (hb : BuiltOk G n) {x : It} (hx : x ∈ (cxB G n E F).C 0) (h0 : 0 ≤ x.1) : x = (x.1, 0) := by
 cases S13.X15.mem_C.1 hx with
 | base _ h2 _ =>
  rw [X14.getD_get hb.inv.1.first] at h2
  obtain rfl : x = (-1, 0) := by simpa using h2
  exact absurd h0 (by show ¬ (0 : Int) ≤ -1; omega)
 | more x s p _ _ _ _ _ => rfl
open S13.X15 (cntS cntW cntS_succ cntW_take)
theorem cntW_le (l : List It) : cntW l ≤ l.length := List.length_filter_le _ _
theorem cntS_le {C : Nat → List It} {m : Nat} (h : ∀ i, (C i).length ≤ m) : ∀ n, cntS C n ≤ n * m
 | 0 => Nat.zero_le _
 | n + 1 => by
  rw [cntS_succ, Nat.succ_mul]
  have := cntS_le h n
  have := cntW_le (C n)
  have := h n
  omega
set_option maxRecDepth 100000 in
set_option maxHeartbeats 16000000 in
theorem begins_walk {G : GD} {gv : Value} {w : World} {Bt : Nat} (h : Gram w gv G) (ht : Tab Bt w) (hBt : Bt ≤ w.heap.size) :
  Calls Tryz.prog 7 #[gv] w fun e w' => e = .returned (.bool true) ∧ Below w.heap.size w w' := by
 have HGr := hid h
 have HT := hid ht
 obtain ⟨tv, ov, sv, pv, tf, rv, h⟩ := h
 have HGA := hid h
 have hgv := h.eq
 subst hgv
 obtain ⟨W1, e1⟩ : ∃ W1, w.alloc (.cells #[tv, ov, sv, pv, .int .i64 G.start] 27) = W1 := ⟨_, rfl⟩
 have hb1 : Below w.heap.size w W1 := by rw [← e1]; exact (Below.refl _ _).alloc (Nat.le_refl _) _
 have n1 : W1.heap[w.heap.size]? = some (.cells #[tv, ov, sv, pv, .int .i64 G.start] 27 (0, 0)) := by rw [← e1]; exact new_block _ _
 have HB1 := hid hb1
 have HN1 := hid n1
 have KW := hid (works_any W1 (ht.on (hb1.mono hBt)) (Nat.le_trans hBt hb1.size))
 clear h hb1 n1 ht
 go_enter Tryz.func7, Tryz.ntmps7
 go_wp2_with fail
 refine KW.out.mono ?_
 rintro e w2 ⟨rfl, hb2⟩
 have HB2 := hid (HB1.out.trans (hb2.mono HB1.out.size))
 have HN2 := hid ((hb2.block _ (Array.getElem?_eq_some_iff.1 HN1.out).1).trans HN1.out)
 have c0 : w2.cell? ⟨w.heap.size, 0, none⟩ = some (tv) := Lib.cell_of_heap HN2.out 0
 have c1 : w2.cell? ⟨w.heap.size, 1, none⟩ = some (ov) := Lib.cell_of_heap HN2.out 1
 have c2 : w2.cell? ⟨w.heap.size, 2, none⟩ = some (sv) := Lib.cell_of_heap HN2.out 2
 have c3 : w2.cell? ⟨w.heap.size, 3, none⟩ = some (pv) := Lib.cell_of_heap HN2.out 3
 have c4 : w2.cell? ⟨w.heap.size, 4, none⟩ = some (.int .i64 G.start) := Lib.cell_of_heap HN2.out 4
 have KF := hid (Little_any (HGr.out.below HB2.out))
 clear hb2 KW e1
 go_wp2_with fail
 refine KF.out.mono ?_
 rintro e w3 ⟨fw, rfl, hb3⟩
 have HB3 := hid (HB2.out.trans (hb3.mono HB2.out.size))
 have HN3 := hid ((hb3.block _ (Array.getElem?_eq_some_iff.1 HN2.out).1).trans HN2.out)
 clear hb3 KF c0 c1 c2 c3 c4
 cases fw
 ·go_wp2_with fail
  go_ret
  exact ⟨rfl, HB3.out⟩
 have c0 : w3.cell? ⟨w.heap.size, 0, none⟩ = some (tv) := Lib.cell_of_heap HN3.out 0
 have c1 : w3.cell? ⟨w.heap.size, 1, none⟩ = some (ov) := Lib.cell_of_heap HN3.out 1
 have c2 : w3.cell? ⟨w.heap.size, 2, none⟩ = some (sv) := Lib.cell_of_heap HN3.out 2
 have c3 : w3.cell? ⟨w.heap.size, 3, none⟩ = some (pv) := Lib.cell_of_heap HN3.out 3
 have c4 : w3.cell? ⟨w.heap.size, 4, none⟩ = some (.int .i64 G.start) := Lib.cell_of_heap HN3.out 4
 have KA := hid (All_any (HGr.out.below HB3.out) (HT.out.on (HB3.out.mono hBt)) (Nat.le_trans hBt HB3.out.size))
 go_wp2_with fail
 refine KA.out.mono ?_
 rintro e w4 hap
 obtain ⟨hb4, hcase2⟩ := all_cases hap
 have HB4 := hid (HB3.out.trans (hb4.mono HB3.out.size))
 have HN4 := hid ((hb4.block _ (Array.getElem?_eq_some_iff.1 HN3.out).1).trans HN3.out)
 clear hap hb4 KA c0 c1 c2 c3 c4
 rcases hcase2 with ⟨er, her, rfl⟩ | ⟨hval, n, hok, A, lb, lf, lc, rfl, hL, hK⟩
 ·rcases her with rfl | rfl
  ·go_wp2_with fail
   go_ret
   exact ⟨rfl, HB4.out⟩
  ·go_wp2_with fail
   go_ret
   exact ⟨rfl, HB4.out⟩
 have HVAL := hid hval
 have HOK := hid hok
 have HL := hid hL
 have HKA := hid hK
 have hn0 : 0 < n := S13.X15.n_pos hok
 have hn1 : n ≤ 2000 := built_le hok
 have HCL := hid (cx_len hval n (E0 G) (F0 G))
 clear hval hok hL hK
 obtain ⟨np, hnp⟩ : ∃ np, G.prods.length = np := ⟨_, rfl⟩
 obtain ⟨pa, pc, hpv, hpn, hpx⟩ := HGA.out.prods
 rw [hnp] at hpv hpn hpx
 subst hpv
 obtain ⟨N, hN⟩ : ∃ N, ((cxB G n (E0 G) (F0 G)).C 0).length = N := ⟨_, rfl⟩
 have HN := hid hN
 have hNle : N ≤ 1573 := by rw [← hN]; exact HCL.out 0
 obtain ⟨io, ic, ao, ac, q0, q1, -, -, hq⟩ := HKA.out 0 hn0
 rw [hN] at q0 q1
 have q0 : w4.cell? ⟨lb, lf, none⟩ = some (.slice io N ic) := by simpa using q0
 have q1 : w4.cell? ⟨lb, lf + 1, none⟩ = some (.slice ao N ac) := by simpa using q1
 have HQ0 := hid q0
 have HQ1 := hid q1
 have HQ := hid hq
 clear hN q1 hq
 go_wp2_with fail
 clear q0
 go_loopw [7, 8] (fun t7 t8 wr => ∃ k : Nat, k ≤ N ∧ t7 = .int .i64 (k : Int) ∧ Hid (Below w4.heap.size w4 wr)) (fun t7 _ _ => N - (RowKit.intOf t7).toNat)
 case atStart => exact ⟨0, Nat.zero_le _, rfl, hid (Below.refl _ _)⟩
 case round =>
  obtain ⟨k, hkN, rfl, HR⟩ := hrel
  have q0 := cell_below HR.out HQ0.out
  by_cases hlt : k < N
  ·have j1 : (k : Int) < (N : Int) := by omega
   have j0 : (0 : Int) ≤ (k : Int) := by omega
   obtain ⟨x, hx⟩ : ∃ x, ((cxB G n (E0 G) (F0 G)).C 0)[k]? = some x := ⟨_, List.getElem?_eq_getElem (by rw [HN.out]; exact hlt)⟩
   obtain ⟨ib, jf, ab, af, rfl, x0, x1, rfl, x2⟩ := HQ.out k x hx
   have HX := hid hx
   have r0 := cell_below HR.out x0
   have r1 := cell_below HR.out x1
   have HX2 := hid (cell_below HR.out x2)
   clear hx x0 x1 x2
   obtain ⟨wa, ea⟩ : ∃ z, wr.alloc (.cells #[.int .i64 0, .int .i64 0] 60) = z := ⟨_, rfl⟩
   have na : wa.heap[wr.heap.size]? = some (.cells #[.int .i64 0, .int .i64 0] 60 (0, 0)) := by rw [← ea]; exact new_block _ _
   have hba : Below wr.heap.size wr wa := by rw [← ea]; exact (Below.refl _ _).alloc (Nat.le_refl _) _
   have vc0 : wa.cell? ⟨wr.heap.size, 0, none⟩ = some (.int .i64 0) := Lib.cell_of_heap na 0
   have vf0 := Lib.frozen_of_heap na 0
   obtain ⟨u1, ve0⟩ : ∃ z, wa.setCell ⟨wr.heap.size, 0, none⟩ (.int .i64 x.1) = z := ⟨_, rfl⟩
   have n1 : u1.heap[wr.heap.size]? = some (.cells #[.int .i64 x.1, .int .i64 0] 60 (0, 0)) := by rw [← ve0]; exact heap_setCell_same _ _ 0 _ 60 _ na
   have vc1 : u1.cell? ⟨wr.heap.size, 1, none⟩ = some (.int .i64 0) := Lib.cell_of_heap n1 1
   have vf1 := Lib.frozen_of_heap n1 1
   obtain ⟨u2, ve1⟩ : ∃ z, u1.setCell ⟨wr.heap.size, 1, none⟩ (.int .i64 x.2) = z := ⟨_, rfl⟩
   have n2 : u2.heap[wr.heap.size]? = some (.cells #[.int .i64 x.1, .int .i64 x.2] 60 (0, 0)) := by rw [← ve1]; exact heap_setCell_same _ _ 1 _ 60 _ n1
   have hb5 : Below wr.heap.size wr u2 := by
    rw [← ve1, ← ve0]
    exact (hba.setCell (Nat.le_refl _) _).setCell (Nat.le_refl _) _
   have HU := hid (HR.out.trans (hb5.mono HR.out.size))
   have HX0 := hid n2
   have HX2 := hid (cell_below hb5 HX2.out)
   clear na n1 n2 hba hb5
   go_wp2_with fail
   clear vc0 vf0 vc1 vf1 ve0 ve1 ea r0 r1
   have HNW := hid ((HU.out.block _ (Array.getElem?_eq_some_iff.1 HN4.out).1).trans HN4.out)
   have Z0 := hid (show ∀ w', Below u2.heap.size u2 w' → w'.cell? ⟨wr.heap.size, 0, none⟩ = some (.int .i64 x.1) from fun w' hC => cell_below hC (Lib.cell_of_heap HX0.out 0))
   have Z1 := hid (show ∀ w', Below u2.heap.size u2 w' → w'.cell? ⟨w.heap.size, 3, none⟩ = some (.slice pa np pc) from fun w' hC => cell_below hC (Lib.cell_of_heap HNW.out 3))
   have Z2 := hid (show ∀ w', Below u2.heap.size u2 w' → w'.cell? ⟨w.heap.size, 4, none⟩ = some (.int .i64 G.start) from fun w' hC => cell_below hC (Lib.cell_of_heap HNW.out 4))
   have Z3 := hid (show ∀ w', Below u2.heap.size u2 w' → w'.cell? ⟨lb, lf + 1, none⟩ = some (.slice (some ⟨ab, af, none⟩) N ac) from fun w' hC => cell_below hC (cell_below HU.out HQ1.out))
   have Z4 := hid (show ∀ w', Below u2.heap.size u2 w' → w'.cell? ⟨ab, af + k, none⟩ = some (uv (A (0, x))) from fun w' hC => cell_below hC HX2.out)
   clear q0
   by_cases h0 : 0 ≤ x.1
   case neg =>
    have g0 : decide (0 ≤ x.1) = false := decide_eq_false h0
    refine wp_region_below (by kernel_rfl) (by kernel_rfl) ?_
    with_reducible refine BigFrame.wpQuiet_want (by kernel_rfl) (fun K hK => ?_)
    apply Exists.intro
    refine ⟨fun w' hC => ?_, hK _ ?_⟩
    ·unfold Oper.quietAt
     go_simp
     first | with_reducible rfl | done
    clear hK K
    try simp only [Act.put, List.setIfInBounds_toArray, List.set_cons_zero, List.set_cons_succ]
    with_reducible refine BigFrame.wpQuiet_want (by kernel_rfl) (fun K hK => ?_)
    apply Exists.intro
    refine ⟨fun w' hC => ?_, hK _ ?_⟩
    ·have f0' := Z0.out w' hC
     have f1' := Z1.out w' hC
     have f2' := Z2.out w' hC
     have f3' := Z3.out w' hC
     have f4' := Z4.out w' hC
     unfold Oper.quietAt
     go_simp
     first | with_reducible rfl | done
    clear hK K
    try simp only [Act.put, List.setIfInBounds_toArray, List.set_cons_zero, List.set_cons_succ]
    iterate 2
     with_reducible refine BigFrame.wpQuiet_want (by kernel_rfl) (fun K hK => ?_)
     apply Exists.intro
     refine ⟨fun w' hC => ?_, hK _ ?_⟩
     ·unfold Oper.quietAt
      go_simp
      first | with_reducible rfl | done
     clear hK K
     try simp only [Act.put, List.setIfInBounds_toArray, List.set_cons_zero, List.set_cons_succ]
    iterate 10
     with_reducible refine BigFrame.wpQuiet_skip (by kernel_rfl) ?_
     try simp only [Act.put, List.setIfInBounds_toArray, List.set_cons_zero, List.set_cons_succ]
    iterate 2
     with_reducible refine BigFrame.wpQuiet_want (by kernel_rfl) (fun K hK => ?_)
     apply Exists.intro
     refine ⟨fun w' hC => ?_, hK _ ?_⟩
     ·unfold Oper.quietAt
      go_simp
      first | with_reducible rfl | done
     clear hK K
     try simp only [Act.put, List.setIfInBounds_toArray, List.set_cons_zero, List.set_cons_succ]
    iterate 9
     with_reducible refine BigFrame.wpQuiet_skip (by kernel_rfl) ?_
     try simp only [Act.put, List.setIfInBounds_toArray, List.set_cons_zero, List.set_cons_succ]
    with_reducible refine BigFrame.wpQuiet_want (by kernel_rfl) (fun K hK => ?_)
    apply Exists.intro
    refine ⟨fun w' hC => ?_, hK _ ?_⟩
    ·unfold Oper.quietAt
     go_simp
     first | with_reducible rfl | done
    clear hK K
    try simp only [Act.put, List.setIfInBounds_toArray, List.set_cons_zero, List.set_cons_succ]
    refine wpQuiet_nil ?_
    intro w6 hb6
    have HF6 := hid (HU.out.trans (hb6.mono HU.out.size))
    clear hb6
    go_wp2_with fail
    refine ⟨⟨k + 1, by omega, by go_num, HF6⟩, ?_⟩
    simp [RowKit.intOf]
    omega
   have g0 : decide (0 ≤ x.1) = true := decide_eq_true h0
   obtain ⟨q, hq⟩ : ∃ q : Nat, x.1 = (q : Int) := ⟨x.1.toNat, by omega⟩
   have hxx := first_zero HOK.out (List.mem_of_getElem? HX.out) h0
   have hth := X14.there_iff.1 ((S13.X15.mem_C.1 (List.mem_of_getElem? HX.out)).there)
   have hql : q < G.prods.length := by omega
   obtain ⟨pb, po, rfl, hpq⟩ := hpx (by omega)
   obtain ⟨_, p1, _, _⟩ := hpq q (by omega)
   obtain ⟨so, hso⟩ : ∃ so, (G.prods.getD q default).sort = so := ⟨_, rfl⟩
   have HSO := hid hso
   rw [hso] at p1
   have Z5 := hid (show ∀ w', Below u2.heap.size u2 w' → w'.cell? ⟨pb, po + q * 4 + 1, none⟩ = some (.int .i64 so) from fun w' hC => cell_below hC (cell_below (HB4.out.trans (HU.out.mono HB4.out.size)) p1))
   have HXX := hid hxx
   rw [hq] at Z0 g0
   have q0' : (0 : Int) ≤ (q : Int) := by omega
   have g1 : decide ((0 : Int) ≤ (q : Int)) = true := decide_eq_true q0'
   have q1' : (q : Int) < (np : Int) := by omega
   clear hpq p1 hso hth hxx
   by_cases hs : so = G.start
   case neg =>
    have z0 : (so == G.start) = false := by rw [beq_eq_false_iff_ne]; exact hs
    refine wp_region_below (by kernel_rfl) (by kernel_rfl) ?_
    with_reducible refine BigFrame.wpQuiet_want (by kernel_rfl) (fun K hK => ?_)
    apply Exists.intro
    refine ⟨fun w' hC => ?_, hK _ ?_⟩
    ·unfold Oper.quietAt
     go_simp
     first | with_reducible rfl | done
    clear hK K
    try simp only [Act.put, List.setIfInBounds_toArray, List.set_cons_zero, List.set_cons_succ]
    with_reducible refine BigFrame.wpQuiet_want (by kernel_rfl) (fun K hK => ?_)
    apply Exists.intro
    refine ⟨fun w' hC => ?_, hK _ ?_⟩
    ·have f0' := Z0.out w' hC
     have f1' := Z1.out w' hC
     have f2' := Z2.out w' hC
     have f3' := Z3.out w' hC
     have f4' := Z4.out w' hC
     have f5' := Z5.out w' hC
     unfold Oper.quietAt
     go_simp
     first | with_reducible rfl | done
    clear hK K
    try simp only [Act.put, List.setIfInBounds_toArray, List.set_cons_zero, List.set_cons_succ]
    iterate 3
     with_reducible refine BigFrame.wpQuiet_want (by kernel_rfl) (fun K hK => ?_)
     apply Exists.intro
     refine ⟨fun w' hC => ?_, hK _ ?_⟩
     ·unfold Oper.quietAt
      go_simp
      first | with_reducible rfl | done
     clear hK K
     try simp only [Act.put, List.setIfInBounds_toArray, List.set_cons_zero, List.set_cons_succ]
    with_reducible refine BigFrame.wpQuiet_want (by kernel_rfl) (fun K hK => ?_)
    apply Exists.intro
    refine ⟨fun w' hC => ?_, hK _ ?_⟩
    ·have f0' := Z0.out w' hC
     have f1' := Z1.out w' hC
     have f2' := Z2.out w' hC
     have f3' := Z3.out w' hC
     have f4' := Z4.out w' hC
     have f5' := Z5.out w' hC
     unfold Oper.quietAt
     go_simp
     first | with_reducible rfl | done
    clear hK K
    try simp only [Act.put, List.setIfInBounds_toArray, List.set_cons_zero, List.set_cons_succ]
    with_reducible refine BigFrame.wpQuiet_want (by kernel_rfl) (fun K hK => ?_)
    apply Exists.intro
    refine ⟨fun w' hC => ?_, hK _ ?_⟩
    ·unfold Oper.quietAt
     go_simp
     first | with_reducible rfl | done
    clear hK K
    try simp only [Act.put, List.setIfInBounds_toArray, List.set_cons_zero, List.set_cons_succ]
    with_reducible refine BigFrame.wpQuiet_want (by kernel_rfl) (fun K hK => ?_)
    apply Exists.intro
    refine ⟨fun w' hC => ?_, hK _ ?_⟩
    ·have f0' := Z0.out w' hC
     have f1' := Z1.out w' hC
     have f2' := Z2.out w' hC
     have f3' := Z3.out w' hC
     have f4' := Z4.out w' hC
     have f5' := Z5.out w' hC
     unfold Oper.quietAt
     go_simp
     first | with_reducible rfl | done
    clear hK K
    try simp only [Act.put, List.setIfInBounds_toArray, List.set_cons_zero, List.set_cons_succ]
    iterate 2
     with_reducible refine BigFrame.wpQuiet_want (by kernel_rfl) (fun K hK => ?_)
     apply Exists.intro
     refine ⟨fun w' hC => ?_, hK _ ?_⟩
     ·unfold Oper.quietAt
      go_simp
      first | with_reducible rfl | done
     clear hK K
     try simp only [Act.put, List.setIfInBounds_toArray, List.set_cons_zero, List.set_cons_succ]
    with_reducible refine BigFrame.wpQuiet_want (by kernel_rfl) (fun K hK => ?_)
    apply Exists.intro
    refine ⟨fun w' hC => ?_, hK _ ?_⟩
    ·have f0' := Z0.out w' hC
     have f1' := Z1.out w' hC
     have f2' := Z2.out w' hC
     have f3' := Z3.out w' hC
     have f4' := Z4.out w' hC
     have f5' := Z5.out w' hC
     unfold Oper.quietAt
     go_simp
     first | with_reducible rfl | done
    clear hK K
    try simp only [Act.put, List.setIfInBounds_toArray, List.set_cons_zero, List.set_cons_succ]
    with_reducible refine BigFrame.wpQuiet_want (by kernel_rfl) (fun K hK => ?_)
    apply Exists.intro
    refine ⟨fun w' hC => ?_, hK _ ?_⟩
    ·unfold Oper.quietAt
     go_simp
     first | with_reducible rfl | done
    clear hK K
    try simp only [Act.put, List.setIfInBounds_toArray, List.set_cons_zero, List.set_cons_succ]
    with_reducible refine BigFrame.wpQuiet_want (by kernel_rfl) (fun K hK => ?_)
    apply Exists.intro
    refine ⟨fun w' hC => ?_, hK _ ?_⟩
    ·have f0' := Z0.out w' hC
     have f1' := Z1.out w' hC
     have f2' := Z2.out w' hC
     have f3' := Z3.out w' hC
     have f4' := Z4.out w' hC
     have f5' := Z5.out w' hC
     unfold Oper.quietAt
     go_simp
     first | with_reducible rfl | done
    clear hK K
    try simp only [Act.put, List.setIfInBounds_toArray, List.set_cons_zero, List.set_cons_succ]
    iterate 3
     with_reducible refine BigFrame.wpQuiet_want (by kernel_rfl) (fun K hK => ?_)
     apply Exists.intro
     refine ⟨fun w' hC => ?_, hK _ ?_⟩
     ·unfold Oper.quietAt
      go_simp
      first | with_reducible rfl | done
     clear hK K
     try simp only [Act.put, List.setIfInBounds_toArray, List.set_cons_zero, List.set_cons_succ]
    iterate 9
     with_reducible refine BigFrame.wpQuiet_skip (by kernel_rfl) ?_
     try simp only [Act.put, List.setIfInBounds_toArray, List.set_cons_zero, List.set_cons_succ]
    with_reducible refine BigFrame.wpQuiet_want (by kernel_rfl) (fun K hK => ?_)
    apply Exists.intro
    refine ⟨fun w' hC => ?_, hK _ ?_⟩
    ·unfold Oper.quietAt
     go_simp
     first | with_reducible rfl | done
    clear hK K
    try simp only [Act.put, List.setIfInBounds_toArray, List.set_cons_zero, List.set_cons_succ]
    refine wpQuiet_nil ?_
    intro w6 hb6
    have HF6 := hid (HU.out.trans (hb6.mono HU.out.size))
    clear hb6
    go_wp2_with fail
    refine ⟨⟨k + 1, by omega, by go_num, HF6⟩, ?_⟩
    simp [RowKit.intOf]
    omega
   have z0 : (so == G.start) = true := by rw [beq_iff_eq]; exact hs
   have hsub := S13.X15.start_ahead (E := E0 G) (F := F0 G) HOK.out HL.out hql (show sortX G q = G.start from HSO.out.trans hs) (valid_start HVAL.out).1
   have hxe : x = ((q : Int), (0 : Int)) := by rw [HXX.out, hq]
   have hhas : hasN (A (0, x)) 63 = true := by
    refine decide_eq_true ?_
    rw [S13.and_bitN_ne]
    refine ⟨by omega, by omega, ?_⟩
    rw [hxe]
    exact S13.sub_iff.1 hsub 63 S13.X15.end_bit
   have hlo := HL.out.low (0, x)
   have KH := hid (show ∀ w', Below u2.heap.size u2 w' → Calls Tryz.prog 33 #[uv (A (0, x)), .int .i64 63] w' fun e w'' => e = .returned (.bool true) ∧ Below w'.heap.size w' w'' from fun w' hC => (S13.Has_any (A (0, x)) 63 hlo w').mono fun e w'' ⟨h1, h2⟩ => ⟨by rw [h1, hhas], by rw [← h2]; exact Below.refl _ _⟩)
   obtain ⟨av, hav⟩ : ∃ av, A (0, x) = av := ⟨_, rfl⟩
   rw [hav] at Z4 KH
   clear hsub hhas hlo hav hxe
   refine wp_region_below (by kernel_rfl) (by kernel_rfl) ?_
   with_reducible refine BigFrame.wpQuiet_want (by kernel_rfl) (fun K hK => ?_)
   apply Exists.intro
   refine ⟨fun w' hC => ?_, hK _ ?_⟩
   ·unfold Oper.quietAt
    go_simp
    first | with_reducible rfl | done
   clear hK K
   try simp only [Act.put, List.setIfInBounds_toArray, List.set_cons_zero, List.set_cons_succ]
   with_reducible refine BigFrame.wpQuiet_want (by kernel_rfl) (fun K hK => ?_)
   apply Exists.intro
   refine ⟨fun w' hC => ?_, hK _ ?_⟩
   ·have f0' := Z0.out w' hC
    have f1' := Z1.out w' hC
    have f2' := Z2.out w' hC
    have f3' := Z3.out w' hC
    have f4' := Z4.out w' hC
    have f5' := Z5.out w' hC
    unfold Oper.quietAt
    go_simp
    first | with_reducible rfl | done
   clear hK K
   try simp only [Act.put, List.setIfInBounds_toArray, List.set_cons_zero, List.set_cons_succ]
   iterate 3
    with_reducible refine BigFrame.wpQuiet_want (by kernel_rfl) (fun K hK => ?_)
    apply Exists.intro
    refine ⟨fun w' hC => ?_, hK _ ?_⟩
    ·unfold Oper.quietAt
     go_simp
     first | with_reducible rfl | done
    clear hK K
    try simp only [Act.put, List.setIfInBounds_toArray, List.set_cons_zero, List.set_cons_succ]
   with_reducible refine BigFrame.wpQuiet_want (by kernel_rfl) (fun K hK => ?_)
   apply Exists.intro
   refine ⟨fun w' hC => ?_, hK _ ?_⟩
   ·have f0' := Z0.out w' hC
    have f1' := Z1.out w' hC
    have f2' := Z2.out w' hC
    have f3' := Z3.out w' hC
    have f4' := Z4.out w' hC
    have f5' := Z5.out w' hC
    unfold Oper.quietAt
    go_simp
    first | with_reducible rfl | done
   clear hK K
   try simp only [Act.put, List.setIfInBounds_toArray, List.set_cons_zero, List.set_cons_succ]
   with_reducible refine BigFrame.wpQuiet_want (by kernel_rfl) (fun K hK => ?_)
   apply Exists.intro
   refine ⟨fun w' hC => ?_, hK _ ?_⟩
   ·unfold Oper.quietAt
    go_simp
    first | with_reducible rfl | done
   clear hK K
   try simp only [Act.put, List.setIfInBounds_toArray, List.set_cons_zero, List.set_cons_succ]
   with_reducible refine BigFrame.wpQuiet_want (by kernel_rfl) (fun K hK => ?_)
   apply Exists.intro
   refine ⟨fun w' hC => ?_, hK _ ?_⟩
   ·have f0' := Z0.out w' hC
    have f1' := Z1.out w' hC
    have f2' := Z2.out w' hC
    have f3' := Z3.out w' hC
    have f4' := Z4.out w' hC
    have f5' := Z5.out w' hC
    unfold Oper.quietAt
    go_simp
    first | with_reducible rfl | done
   clear hK K
   try simp only [Act.put, List.setIfInBounds_toArray, List.set_cons_zero, List.set_cons_succ]
   iterate 2
    with_reducible refine BigFrame.wpQuiet_want (by kernel_rfl) (fun K hK => ?_)
    apply Exists.intro
    refine ⟨fun w' hC => ?_, hK _ ?_⟩
    ·unfold Oper.quietAt
     go_simp
     first | with_reducible rfl | done
    clear hK K
    try simp only [Act.put, List.setIfInBounds_toArray, List.set_cons_zero, List.set_cons_succ]
   with_reducible refine BigFrame.wpQuiet_want (by kernel_rfl) (fun K hK => ?_)
   apply Exists.intro
   refine ⟨fun w' hC => ?_, hK _ ?_⟩
   ·have f0' := Z0.out w' hC
    have f1' := Z1.out w' hC
    have f2' := Z2.out w' hC
    have f3' := Z3.out w' hC
    have f4' := Z4.out w' hC
    have f5' := Z5.out w' hC
    unfold Oper.quietAt
    go_simp
    first | with_reducible rfl | done
   clear hK K
   try simp only [Act.put, List.setIfInBounds_toArray, List.set_cons_zero, List.set_cons_succ]
   with_reducible refine BigFrame.wpQuiet_want (by kernel_rfl) (fun K hK => ?_)
   apply Exists.intro
   refine ⟨fun w' hC => ?_, hK _ ?_⟩
   ·unfold Oper.quietAt
    go_simp
    first | with_reducible rfl | done
   clear hK K
   try simp only [Act.put, List.setIfInBounds_toArray, List.set_cons_zero, List.set_cons_succ]
   with_reducible refine BigFrame.wpQuiet_want (by kernel_rfl) (fun K hK => ?_)
   apply Exists.intro
   refine ⟨fun w' hC => ?_, hK _ ?_⟩
   ·have f0' := Z0.out w' hC
    have f1' := Z1.out w' hC
    have f2' := Z2.out w' hC
    have f3' := Z3.out w' hC
    have f4' := Z4.out w' hC
    have f5' := Z5.out w' hC
    unfold Oper.quietAt
    go_simp
    first | with_reducible rfl | done
   clear hK K
   try simp only [Act.put, List.setIfInBounds_toArray, List.set_cons_zero, List.set_cons_succ]
   iterate 6
    with_reducible refine BigFrame.wpQuiet_want (by kernel_rfl) (fun K hK => ?_)
    apply Exists.intro
    refine ⟨fun w' hC => ?_, hK _ ?_⟩
    ·unfold Oper.quietAt
     go_simp
     first | with_reducible rfl | done
    clear hK K
    try simp only [Act.put, List.setIfInBounds_toArray, List.set_cons_zero, List.set_cons_succ]
   with_reducible refine BigFrame.wpQuiet_want (by kernel_rfl) (fun K hK => ?_)
   apply Exists.intro
   refine ⟨fun w' hC => ?_, hK _ ?_⟩
   ·have f0' := Z0.out w' hC
    have f1' := Z1.out w' hC
    have f2' := Z2.out w' hC
    have f3' := Z3.out w' hC
    have f4' := Z4.out w' hC
    have f5' := Z5.out w' hC
    unfold Oper.quietAt
    go_simp
    first | with_reducible rfl | done
   clear hK K
   try simp only [Act.put, List.setIfInBounds_toArray, List.set_cons_zero, List.set_cons_succ]
   iterate 2
    with_reducible refine BigFrame.wpQuiet_want (by kernel_rfl) (fun K hK => ?_)
    apply Exists.intro
    refine ⟨fun w' hC => ?_, hK _ ?_⟩
    ·unfold Oper.quietAt
     go_simp
     first | with_reducible rfl | done
    clear hK K
    try simp only [Act.put, List.setIfInBounds_toArray, List.set_cons_zero, List.set_cons_succ]
   with_reducible refine BigFrame.wpQuiet_want (by kernel_rfl) (fun K hK => ?_)
   apply Exists.intro
   refine ⟨fun w' hC => ?_, hK _ ?_⟩
   ·have f0' := Z0.out w' hC
    have f1' := Z1.out w' hC
    have f2' := Z2.out w' hC
    have f3' := Z3.out w' hC
    have f4' := Z4.out w' hC
    have f5' := Z5.out w' hC
    unfold Oper.quietAt
    go_simp
    first | with_reducible rfl | done
   clear hK K
   try simp only [Act.put, List.setIfInBounds_toArray, List.set_cons_zero, List.set_cons_succ]
   with_reducible refine BigFrame.wpQuiet_want (by kernel_rfl) (fun K hK => ?_)
   apply Exists.intro
   refine ⟨fun w' hC => ?_, hK _ ?_⟩
   ·unfold Oper.quietAt
    go_simp
    first
      | with_reducible exact below_call hC (Nat.le_refl _) (KH.out w' hC)
   clear hK K
   try simp only [Act.put, List.setIfInBounds_toArray, List.set_cons_zero, List.set_cons_succ]
   iterate 2
    with_reducible refine BigFrame.wpQuiet_want (by kernel_rfl) (fun K hK => ?_)
    apply Exists.intro
    refine ⟨fun w' hC => ?_, hK _ ?_⟩
    ·unfold Oper.quietAt
     go_simp
     first | with_reducible rfl | done
    clear hK K
    try simp only [Act.put, List.setIfInBounds_toArray, List.set_cons_zero, List.set_cons_succ]
   refine wpQuiet_nil ?_
   intro w6 hb6
   have HF6 := hid (HU.out.trans (hb6.mono HU.out.size))
   clear hb6
   go_wp2_with fail
   refine ⟨⟨k + 1, by omega, by go_num, HF6⟩, ?_⟩
   simp [RowKit.intOf]
   omega
  ·have j1 : ¬ (k : Int) < (N : Int) := by omega
   clear HQ HQ0 HQ1
   go_wp2_with fail
   go_loopw [9, 10, 11] (fun t9 t10 t11 wr => ∃ i : Nat, i ≤ n ∧ t10 = .int .i64 (i : Int) ∧ t9 = .int .i64 ((cntS (cxB G n (E0 G) (F0 G)).C i : Nat) : Int) ∧ Hid (Below w4.heap.size w4 wr)) (fun _ t10 _ _ => n - (RowKit.intOf t10).toNat)
   case atStart => exact ⟨0, Nat.zero_le _, rfl, rfl, HR⟩
   case round =>
    clear HR
    obtain ⟨i, hin, rfl, rfl, HR⟩ := hrel
    by_cases hli : i < n
    ·have m1 : (i : Int) < (n : Int) := by omega
     have m0 : (0 : Int) ≤ (i : Int) := by omega
     obtain ⟨io, ic, ao, ac, q0, q1, -, -, hq⟩ := HKA.out i hli
     obtain ⟨N, hN⟩ : ∃ N, ((cxB G n (E0 G) (F0 G)).C i).length = N := ⟨_, rfl⟩
     have HN := hid hN
     have hNle : N ≤ 1573 := by rw [← hN]; exact HCL.out i
     rw [hN] at q0 q1
     have HQ0 := hid q0
     have HQ1 := hid q1
     have HQ := hid hq
     clear hN hq q0 q1
     have q0 := cell_below HR.out HQ0.out
     have hcs := cntS_le HCL.out i
     obtain ⟨cs, hcs2⟩ : ∃ cs, cntS (cxB G n (E0 G) (F0 G)).C i = cs := ⟨_, rfl⟩
     have HCS := hid hcs2
     rw [hcs2] at hcs ⊢
     have hcs : cs ≤ 2000 * 1573 := Nat.le_trans hcs (Nat.mul_le_mul_right _ (by omega))
     clear hcs2
     go_wp2_with fail
     clear q0
     go_loopw [9, 11] (fun t9 t11 wr => ∃ k : Nat, k ≤ N ∧ t11 = .int .i64 (k : Int) ∧ t9 = .int .i64 ((cs + cntW (((cxB G n (E0 G) (F0 G)).C i).take k) : Nat) : Int) ∧ Hid (Below w4.heap.size w4 wr)) (fun _ t11 _ => N - (RowKit.intOf t11).toNat)
     case atStart => exact ⟨0, Nat.zero_le _, rfl, rfl, HR⟩
     case round =>
      clear HR
      obtain ⟨k, hkN, rfl, rfl, HR⟩ := hrel
      have q0 := cell_below HR.out HQ0.out
      by_cases hlt : k < N
      ·have j1 : (k : Int) < (N : Int) := by omega
       have j0 : (0 : Int) ≤ (k : Int) := by omega
       obtain ⟨x, hx⟩ : ∃ x, ((cxB G n (E0 G) (F0 G)).C i)[k]? = some x := ⟨_, List.getElem?_eq_getElem (by rw [HN.out]; exact hlt)⟩
       obtain ⟨ib, jf, ab, af, rfl, x0, x1, rfl, x2⟩ := HQ.out k x hx
       have hct := cntW_take hx
       have hcl := cntW_le (((cxB G n (E0 G) (F0 G)).C i).take k)
       have hcl2 : (((cxB G n (E0 G) (F0 G)).C i).take k).length ≤ 1573 := by rw [List.length_take, HN.out]; omega
       obtain ⟨ct, hct2⟩ : ∃ ct, cntW (((cxB G n (E0 G) (F0 G)).C i).take k) = ct := ⟨_, rfl⟩
       rw [hct2] at hct hcl ⊢
       have hcl : ct ≤ 1573 := Nat.le_trans hcl hcl2
       have HCT := hid hct
       have HX := hid hx
       have r0 := cell_below HR.out x0
       have HX2 := hid (cell_below HR.out x2)
       clear hx x0 x1 x2 hct hct2 hcl2
       by_cases hp : x.1 = -1
       case neg =>
        have z0 : (x.1 == -1) = false := by rw [beq_eq_false_iff_ne]; exact hp
        go_wp2_with fail
        refine ⟨⟨k + 1, by omega, by go_num, ?_, HR⟩, ?_⟩
        ·rw [HCT.out, if_neg hp, Nat.add_zero]
        ·simp [RowKit.intOf]
         omega
       have hahe := S13.X15.whole_ahead HOK.out (symOk HVAL.out) (S13.f0_least HVAL.out).2.2 HL.out hli (List.mem_of_getElem? HX.out) hp
       rw [hahe] at HX2
       rw [hp] at r0
       obtain ⟨wd, ewd⟩ : ∃ wd, wr.drew = wd := ⟨_, rfl⟩
       have hbd : Below wr.heap.size wr wd := by rw [← ewd]; exact (Below.refl _ _).drew
       have HRd := hid (HR.out.trans (hbd.mono HR.out.size))
       have HH0 : wd.cell? ⟨lb, lf + i * 2 + 1, none⟩ = some (.slice (some ⟨ab, af, none⟩) N ac) ∧ wd.cell? ⟨ab, af + k, none⟩ = some (.int .u64 9223372036854775808) := ⟨cell_below HRd.out HQ1.out, cell_below hbd HX2.out⟩
       obtain ⟨wl, ewl⟩ : ∃ wl, wd.alloc (.cells #[.int .i64 63] 3) = wl := ⟨_, rfl⟩
       have hbl : Below wd.heap.size wd wl := by rw [← ewl]; exact (Below.refl _ _).alloc (Nat.le_refl _) _
       have HRl := hid (HRd.out.trans (hbl.mono HRd.out.size))
       have HH1 : wl.cell? ⟨lb, lf + i * 2 + 1, none⟩ = some (.slice (some ⟨ab, af, none⟩) N ac) ∧ wl.cell? ⟨ab, af + k, none⟩ = some (.int .u64 9223372036854775808) := ⟨cell_below hbl HH0.1, cell_below hbl HH0.2⟩
       have KO := hid (S13.of63 wl wd.heap.size (Lib.cell_of_heap (show wl.heap[wd.heap.size]? = some (.cells #[.int .i64 63] 3 (0, 0)) by rw [← ewl]; exact new_block _ _) 0))
       clear hbd hbl
       go_wp2_with fail
       refine region_T 10 (fun w' => w'.cell? ⟨lb, lf + i * 2 + 1, none⟩ = some (.slice (some ⟨ab, af, none⟩) N ac) ∧ w'.cell? ⟨ab, af + k, none⟩ = some (.int .u64 9223372036854775808)) (by kernel_rfl) (by rw [ewd]; exact HH0) (fun inv hHeld => ?_)
       rw [ewd]
       clear hHeld ewd
       refine anyT_take (i := 0) (oi := { dst := some 98, op := Go.Op.move (Go.Operand.tmp 5), type := 30, pos := "law.go:209", after := #[], guard := none }) (v := ?_) rfl (by kernel_rfl) (by kernel_rfl) (by kernel_rfl) (by decide) (by decide) (by kernel_rfl) (by kernel_rfl) (fun _ _ _ h => h) (Or.inl ⟨by rfl, ?_⟩) HH0 inv (fun inv => ?_)
       rotate_left
       ·intro w hSw
        try dsimp only at hSw
        go_simp
        try with_reducible rfl
       simp only [Act.put, List.setIfInBounds_toArray, List.set_cons_zero, List.set_cons_succ]
       refine anyT_take (i := 1) (oi := { dst := some 99, op := Go.Op.move (Go.Operand.tmp 10), type := 3, pos := "law.go:209", after := #[], guard := none }) (v := ?_) rfl (by kernel_rfl) (by kernel_rfl) (by kernel_rfl) (by decide) (by decide) (by kernel_rfl) (by kernel_rfl) (fun _ _ _ h => h) (Or.inl ⟨by rfl, ?_⟩) HH0 inv (fun inv => ?_)
       rotate_left
       ·intro w hSw
        try dsimp only at hSw
        go_simp
        try with_reducible rfl
       simp only [Act.put, List.setIfInBounds_toArray, List.set_cons_zero, List.set_cons_succ]
       refine anyT_take (i := 2) (oi := { dst := some 100, op := Go.Op.indexAddr 30 (Go.Operand.tmp 98) (Go.Operand.tmp 99), type := 0, pos := "law.go:209", after := #[{ on := 0, ground := Go.Ground.data }, { on := 1, ground := Go.Ground.data }], guard := none }) (v := ?_) rfl (by kernel_rfl) (by kernel_rfl) (by kernel_rfl) (by decide) (by decide) (by kernel_rfl) (by kernel_rfl) (fun _ _ _ h => h) (Or.inl ⟨by rfl, ?_⟩) HH0 inv (fun inv => ?_)
       rotate_left
       ·intro w hSw
        try dsimp only at hSw
        go_simp
        try with_reducible rfl
       simp only [Act.put, List.setIfInBounds_toArray, List.set_cons_zero, List.set_cons_succ]
       refine anyT_take (i := 3) (oi := { dst := some 101, op := Go.Op.fieldAddr 48 (Go.Operand.tmp 100) 1, type := 0, pos := "law.go:209", after := #[{ on := 2, ground := Go.Ground.data }], guard := none }) (v := ?_) rfl (by kernel_rfl) (by kernel_rfl) (by kernel_rfl) (by decide) (by decide) (by kernel_rfl) (by kernel_rfl) (fun _ _ _ h => h) (Or.inl ⟨by rfl, ?_⟩) HH0 inv (fun inv => ?_)
       rotate_left
       ·intro w hSw
        try dsimp only at hSw
        go_simp
        try with_reducible rfl
       simp only [Act.put, List.setIfInBounds_toArray, List.set_cons_zero, List.set_cons_succ]
       refine anyT_take (i := 4) (oi := { dst := some 102, op := Go.Op.load 46 (Go.Operand.tmp 101), type := 46, pos := "law.go:209", after := #[{ on := 3, ground := Go.Ground.data }], guard := none }) (v := ?_) rfl (by kernel_rfl) (by kernel_rfl) (by kernel_rfl) (by decide) (by decide) (by kernel_rfl) (by kernel_rfl) (fun _ _ _ h => h) (Or.inl ⟨by rfl, ?_⟩) HH0 inv (fun inv => ?_)
       rotate_left
       ·intro w hSw
        try dsimp only at hSw
        go_simp
        try with_reducible rfl
       simp only [Act.put, List.setIfInBounds_toArray, List.set_cons_zero, List.set_cons_succ]
       refine anyT_take (i := 5) (oi := { dst := some 103, op := Go.Op.move (Go.Operand.tmp 11), type := 3, pos := "law.go:209", after := #[], guard := none }) (v := ?_) rfl (by kernel_rfl) (by kernel_rfl) (by kernel_rfl) (by decide) (by decide) (by kernel_rfl) (by kernel_rfl) (fun _ _ _ h => h) (Or.inl ⟨by rfl, ?_⟩) HH0 inv (fun inv => ?_)
       rotate_left
       ·intro w hSw
        try dsimp only at hSw
        go_simp
        try with_reducible rfl
       simp only [Act.put, List.setIfInBounds_toArray, List.set_cons_zero, List.set_cons_succ]
       refine anyT_take (i := 6) (oi := { dst := some 104, op := Go.Op.indexAddr 46 (Go.Operand.tmp 102) (Go.Operand.tmp 103), type := 0, pos := "law.go:209", after := #[{ on := 4, ground := Go.Ground.data }, { on := 5, ground := Go.Ground.data }], guard := none }) (v := ?_) rfl (by kernel_rfl) (by kernel_rfl) (by kernel_rfl) (by decide) (by decide) (by kernel_rfl) (by kernel_rfl) (fun _ _ _ h => h) (Or.inl ⟨by rfl, ?_⟩) HH0 inv (fun inv => ?_)
       rotate_left
       ·intro w hSw
        try dsimp only at hSw
        go_simp
        try with_reducible rfl
       simp only [Act.put, List.setIfInBounds_toArray, List.set_cons_zero, List.set_cons_succ]
       refine anyT_take (i := 7) (oi := { dst := some 105, op := Go.Op.load 69 (Go.Operand.tmp 104), type := 69, pos := "law.go:209", after := #[{ on := 6, ground := Go.Ground.data }], guard := none }) (v := ?_) rfl (by kernel_rfl) (by kernel_rfl) (by kernel_rfl) (by decide) (by decide) (by kernel_rfl) (by kernel_rfl) (fun _ _ _ h => h) (Or.inl ⟨by rfl, ?_⟩) HH0 inv (fun inv => ?_)
       rotate_left
       ·intro w hSw
        try dsimp only at hSw
        go_simp
        try with_reducible rfl
       simp only [Act.put, List.setIfInBounds_toArray, List.set_cons_zero, List.set_cons_succ]
       refine anyT_next (i := 8) (o := { dst := some 106, op := Go.Op.buildSlice 43 1 #[(0, Go.Operand.const (Go.Value.int Go.IntKind.i64 63))], type := 43, pos := "law.go:209", after := #[], guard := none }) (by kernel_rfl) rfl (by decide) inv (fun inv K' hK => ?_)
       go_simp
       refine hK.out _ _ HH1 ?_
       clear hK K' HH0
       try simp only [Act.put, List.setIfInBounds_toArray, List.set_cons_zero, List.set_cons_succ]
       refine anyT_next (i := 9) (o := { dst := some 107, op := Go.Op.call { callee := Go.Callee.value (Go.Operand.func 31), args := #[Go.Operand.tmp 106], argTypes := #[43] }, type := 69, pos := "law.go:209", after := #[{ on := 8, ground := Go.Ground.data }], guard := none }) (by kernel_rfl) rfl (by decide) inv (fun inv K' hK => ?_)
       go_simp
       refine KO.out.mono ?_
       rintro e w2 ⟨rfl, rfl⟩
       have HH2 := HH1
       refine hK.out _ _ HH2 ?_
       clear hK K' HH1
       try simp only [Act.put, List.setIfInBounds_toArray, List.set_cons_zero, List.set_cons_succ]
       refine anyT_one (i := 10) (o := { dst := some 108, op := Go.Op.binOp Go.BinOp.neq 69 (Go.Operand.tmp 105) (Go.Operand.tmp 107) 69, type := 4, pos := "law.go:209", after := #[{ on := 7, ground := Go.Ground.data }, { on := 9, ground := Go.Ground.data }], guard := none }) (by kernel_rfl) rfl (fun K' hK => ?_)
       go_simp
       refine hK.out _ _ (fun h => absurd h (by decide)) ?_
       clear hK K'
       try simp only [Act.put, List.setIfInBounds_toArray, List.set_cons_zero, List.set_cons_succ]
       refine anyT_done (by kernel_rfl) ?_ _
       go_wp2_with fail
       refine ⟨⟨k + 1, by omega, by go_num, ?_, HRl⟩, ?_⟩
       ·rw [HCT.out, if_pos hp]
        go_num
       ·simp [RowKit.intOf]
        omega
      ·have j1 : ¬ (k : Int) < (N : Int) := by omega
       go_wp2_with fail
       refine ⟨⟨i + 1, by omega, by go_num, ?_, HR⟩, ?_⟩
       ·obtain rfl : k = N := by omega
        rw [cntS_succ, HCS.out, List.take_of_length_le (by rw [HN.out]; exact Nat.le_refl _)]
       ·simp [RowKit.intOf]
        omega
    ·have m1 : ¬ (i : Int) < (n : Int) := by omega
     obtain rfl : i = n := by omega
     rw [S13.X15.two_whole HOK.out (symOk HVAL.out)]
     go_wp2_with fail
     go_ret
     exact ⟨rfl, HB4.out.trans (HR.out.mono HB4.out.size)⟩
end Go.Proofs.YticmnfmijdgmbaaGreatDoor
