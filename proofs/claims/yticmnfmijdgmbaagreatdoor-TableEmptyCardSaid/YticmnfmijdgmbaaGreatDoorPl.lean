/- The walk of TableEmpty. -/
import Derived.Test.YticmnfmijdgmbaaGreatDoorGb
import Derived.Test.YticmnfmijdgmbaaGreatDoorZs
import Derived.Test.YticmnfmijdgmbaaGreatDoorZp
import Derived.Below
import Derived.ChangeSame
import Derived.Carry
import Derived.OpenShut
namespace Go.Proofs.YticmnfmijdgmbaaGreatDoor
open Go Go.RowKit Go.Lib
open X14 (It exG closeX iterB BuiltOk BuiltMany rightX behX sortX)
open S13 (u64 bitN top E0 F0 Sub hasN)
open S16
open S13.X15 (Pl LeastA askX places cxB)
set_option linter.unusedVariables false
set_option linter.unusedSimpArgs false
theorem build_cases {G : GD} {w w' : World} {e : Ending} (h : BuildTP G w e w') : Below w.heap.size w w' ∧ ((∃ er : Int, (er = 1 ∨ er = 4 ∨ er = 16) ∧ e = .returned (.tuple #[zeroTab, .int .i64 er])) ∨
  ∃ n A dv nv mv, validB G = true ∧ BuiltOk G n ∧ LA G n A ∧ clX (cntS (dS G n A)) (G.terms.length + 1) n = [] ∧ e = .returned (.tuple #[.agg #[dv, nv, mv], .int .i64 0]) ∧ TabAt w' (.agg #[dv, nv, mv]) n (G.terms.length + 1) (dS G n A) (fun i => nextX G (iterB G n).nx i G.sorts.length)) := by
 obtain ⟨hb, ⟨_, h⟩ | ⟨hV, n, ⟨_, h⟩ | ⟨hO, A, hL, ⟨_, h⟩ | ⟨hno, tv, h, ht⟩⟩⟩⟩ := h
 ·exact ⟨hb, .inl ⟨1, .inl rfl, h⟩⟩
 ·exact ⟨hb, .inl ⟨4, .inr (.inl rfl), h⟩⟩
 ·exact ⟨hb, .inl ⟨16, .inr (.inr rfl), h⟩⟩
 ·obtain ⟨dv, nv, mv, rfl, _⟩ := id ht
  exact ⟨hb, .inr ⟨n, A, dv, nv, mv, hV, hO, hL, hno, h, ht⟩⟩
theorem tab_parts {w : World} {dv nv mv : Value} {n m : Nat} {D : Nat → Nat → List It} {Nx : Nat → List Int} (h : TabAt w (.agg #[dv, nv, mv]) n m D Nx) : ∃ dvo dvc nvo nvc mvo mvc, dv = .slice dvo n dvc ∧ nv = .slice nvo n nvc ∧ mv = .slice mvo n mvc ∧
  RowsAt w dv n (fun i u => ItemsAt w u (onlyX (D i) m m)) ∧ RowsAt w nv n (fun i u => IntsAt w u (Nx i)) ∧ U64s w mv ((List.range n).map fun i => mayX (D i) m m) := by
 obtain ⟨dv, nv, mv, e, h1, h2, h3⟩ := h
 cases e
 obtain ⟨a, b, e1, _⟩ := h1.len
 obtain ⟨c, d, e2, _⟩ := h2.len
 obtain ⟨f, g, e3, _⟩ := id h3
 have hl : ((List.range n).map fun i => mayX (D i) m m).length = n := by simp
 rw [hl] at e3
 exact ⟨a, b, c, d, f, g, e1, e2, e3, h1, h2, h3⟩
theorem nul_der {M : LR.Mach} {s : Int} (h : LR.Nul M s) : LR.Der M [s] [] := by
 induction h with
 | mk q hq hs ih =>
  have : ∀ l : List Int, (∀ s ∈ l, LR.Der M [s] []) → LR.Der M l [] := by
   intro l
   induction l with
   | nil => exact fun _ => .nil
   | cons s l ihl => exact fun h => LR.Der.app (l := [s]) (x := []) (y := []) (h s List.mem_cons_self) (ihl fun x hx => h x (List.mem_cons_of_mem _ hx))
  exact LR.Der.sort q [] [] [] hq (this _ ih) .nil
theorem empty_runs {G : GD} {n : Nat} {A : Pl → Nat} {b : Bool} {r : List Int} (hV : validB G = true) (hO : BuiltOk G n) (hL : LA G n A) (hno : clX (cntS (dS G n A)) (G.terms.length + 1) n = []) (h : LR.Runs (mG G n (dS G n A)) (fun t => 0 ≤ t ∧ t < (G.terms.length : Int)) [0] [] b r)
  {L : List Bool} (hLe : S13.Least false G.prods G.sorts.length L) : r = [] ∧ b = L.getD G.start.toNat false := by
 have hM := machine_ok hV hO hL (fun i k hi hk => clX_none hno i k hi (by omega))
 have hst := valid_start hV
 have hr : r = [] := List.eq_nil_of_suffix_nil h.left
 obtain rfl := hLe.same (S13.e0_least hV)
 refine ⟨hr, ?_⟩
 have hrt : (mG G n (dS G n A)).rt (-1) = [-1 - G.start] := rfl
 have hk : S13.isK false (E0 G) (-1 - G.start) = (E0 G).getD G.start.toNat false := by
  unfold S13.isK
  rw [if_pos (by omega), show (-1 - (-1 - G.start)).toNat = G.start.toNat by omega]
 rw [← hk]
 cases b with
 | true =>
  have h1 := (LR.runs_der hM (fun h => by have := (S13.valid_few hV).1; omega) h).2
  rw [hrt] at h1
  exact (of_nul hV (h1.nul rfl _ List.mem_cons_self)).symm
 | false =>
  cases hc : S13.isK false (E0 G) (-1 - G.start) with
  | false => rfl
  | true =>
   have h1 := LR.der_runs (inT := fun t => 0 ≤ t ∧ t < (G.terms.length : Int)) hM (l := []) (by rw [hrt]; exact nul_der (nul_of hV (S13.e0_least hV).1 _ hc)) (fun t ht => by cases ht)
   exact ((h1.one h).1).symm
theorem runs_some {G : GD} {n : Nat} {A : Pl → Nat} (hV : validB G = true) (hO : BuiltOk G n) (hL : LA G n A) (hno : clX (cntS (dS G n A)) (G.terms.length + 1) n = []) (l : List Int) : ∃ b r, LR.Runs (mG G n (dS G n A)) (fun t => 0 ≤ t ∧ t < (G.terms.length : Int)) [0] l b r :=
 LR.runs_all (machine_ok hV hO hL (fun i k hi hk => clX_none hno i k hi (by omega))) (fun _ _ _ _ => trivial) l .base
set_option maxRecDepth 100000 in
set_option maxHeartbeats 16000000 in
theorem empty16_walk {G : GD} {gv : Value} {w : World} {Bt : Nat} (h : Gram w gv G) (ht : Tab Bt w) (hBt : Bt ≤ w.heap.size) :
  Calls Tryz.prog 14 #[gv] w fun e w' => e = .returned (.bool true) ∧ Below w.heap.size w w' := by
 have HGr := hid h
 have HT := hid ht
 obtain ⟨tv, ov, sv, pv, tf, rv, h⟩ := h
 have HGA := hid h
 have hgv := h.eq
 subst hgv
 obtain ⟨W1, e1⟩ : ∃ W1, w.alloc (.cells #[tv, ov, sv, pv, .int .i64 G.start] 27) = W1 := ⟨_, rfl⟩
 have hb1 : Below w.heap.size w W1 := by rw [← e1]; exact (Below.refl _ _).alloc (Nat.le_refl _) _
 have n1 : W1.heap[w.heap.size]? = some (.cells #[tv, ov, sv, pv, .int .i64 G.start] 27 (0, 0)) := by rw [← e1]; exact new_block _ _
 have HB1 := hid hb1
 have HN1 := hid n1
 have KW := hid (works16_any W1 (ht.on (hb1.mono hBt)) (Nat.le_trans hBt hb1.size))
 clear h hb1 n1 ht
 go_enter Tryz.func14, Tryz.ntmps14
 go_wp2_with fail
 refine KW.out.mono ?_
 rintro e w2 ⟨rfl, hb2⟩
 have HB2 := hid (HB1.out.trans (hb2.mono HB1.out.size))
 have HN2 := hid ((hb2.block _ (Array.getElem?_eq_some_iff.1 HN1.out).1).trans HN1.out)
 have c0 : w2.cell? ⟨w.heap.size, 0, none⟩ = some (tv) := Lib.cell_of_heap HN2.out 0
 have c1 : w2.cell? ⟨w.heap.size, 1, none⟩ = some (ov) := Lib.cell_of_heap HN2.out 1
 have c2 : w2.cell? ⟨w.heap.size, 2, none⟩ = some (sv) := Lib.cell_of_heap HN2.out 2
 have c3 : w2.cell? ⟨w.heap.size, 3, none⟩ = some (pv) := Lib.cell_of_heap HN2.out 3
 have c4 : w2.cell? ⟨w.heap.size, 4, none⟩ = some (.int .i64 G.start) := Lib.cell_of_heap HN2.out 4
 have KF := hid (Little_any (HGr.out.below HB2.out))
 clear hb2 KW e1
 go_wp2_with fail
 refine KF.out.mono ?_
 rintro e w3 ⟨fw, rfl, hb3⟩
 have HB3 := hid (HB2.out.trans (hb3.mono HB2.out.size))
 have HN3 := hid ((hb3.block _ (Array.getElem?_eq_some_iff.1 HN2.out).1).trans HN2.out)
 clear hb3 KF c0 c1 c2 c3 c4
 cases fw
 ·go_wp2_with fail
  go_ret
  exact ⟨rfl, HB3.out⟩
 have c0 : w3.cell? ⟨w.heap.size, 0, none⟩ = some (tv) := Lib.cell_of_heap HN3.out 0
 have c1 : w3.cell? ⟨w.heap.size, 1, none⟩ = some (ov) := Lib.cell_of_heap HN3.out 1
 have c2 : w3.cell? ⟨w.heap.size, 2, none⟩ = some (sv) := Lib.cell_of_heap HN3.out 2
 have c3 : w3.cell? ⟨w.heap.size, 3, none⟩ = some (pv) := Lib.cell_of_heap HN3.out 3
 have c4 : w3.cell? ⟨w.heap.size, 4, none⟩ = some (.int .i64 G.start) := Lib.cell_of_heap HN3.out 4
 have KB := hid (BuildT_any (HGr.out.below HB3.out) (HT.out.on (HB3.out.mono hBt)) (Nat.le_trans hBt HB3.out.size))
 go_wp2_with fail
 refine KB.out.mono ?_
 rintro e w4 hbp
 obtain ⟨hb4, hcase⟩ := build_cases hbp
 have HB4 := hid (HB3.out.trans (hb4.mono HB3.out.size))
 have HN4 := hid ((hb4.block _ (Array.getElem?_eq_some_iff.1 HN3.out).1).trans HN3.out)
 clear KB c0 c1 c2 c3 c4 hbp
 rcases hcase with ⟨er, her, rfl⟩ | ⟨n, A, dv, nv, mv, hV, hO, hL, hno, rfl, htab⟩
 ·unfold zeroTab
  obtain ⟨Wz, ez⟩ : ∃ z, w4.alloc (.cells #[.slice none 0 0, .slice none 0 0, .slice none 0 0] 96) = z := ⟨_, rfl⟩
  have nez : Wz.heap[w4.heap.size]? = some (.cells #[.slice none 0 0, .slice none 0 0, .slice none 0 0] 96 (0, 0)) := by rw [← ez]; exact new_block _ _
  have xn0 : Wz.heap[w4.heap.size]? = some (.cells #[.slice none 0 0, .slice none 0 0, .slice none 0 0] 96 (0, 0)) := nez
  have xc0 : Wz.cell? ⟨w4.heap.size, 0, none⟩ = some (.slice none 0 0) := Lib.cell_of_heap xn0 0
  have xf0 := Lib.frozen_of_heap xn0 0
  obtain ⟨z1, xe0⟩ : ∃ z, Wz.setCell ⟨w4.heap.size, 0, none⟩ (.slice none 0 0) = z := ⟨_, rfl⟩
  have xn1 : z1.heap[w4.heap.size]? = some (.cells #[.slice none 0 0, .slice none 0 0, .slice none 0 0] 96 (0, 0)) := by rw [← xe0]; exact heap_setCell_same _ _ 0 _ 96 _ xn0
  have xc1 : z1.cell? ⟨w4.heap.size, 1, none⟩ = some (.slice none 0 0) := Lib.cell_of_heap xn1 1
  have xf1 := Lib.frozen_of_heap xn1 1
  obtain ⟨z2, xe1⟩ : ∃ z, z1.setCell ⟨w4.heap.size, 1, none⟩ (.slice none 0 0) = z := ⟨_, rfl⟩
  have xn2 : z2.heap[w4.heap.size]? = some (.cells #[.slice none 0 0, .slice none 0 0, .slice none 0 0] 96 (0, 0)) := by rw [← xe1]; exact heap_setCell_same _ _ 1 _ 96 _ xn1
  have xc2 : z2.cell? ⟨w4.heap.size, 2, none⟩ = some (.slice none 0 0) := Lib.cell_of_heap xn2 2
  have xf2 := Lib.frozen_of_heap xn2 2
  obtain ⟨z3, xe2⟩ : ∃ z, z2.setCell ⟨w4.heap.size, 2, none⟩ (.slice none 0 0) = z := ⟨_, rfl⟩
  have xn3 : z3.heap[w4.heap.size]? = some (.cells #[.slice none 0 0, .slice none 0 0, .slice none 0 0] 96 (0, 0)) := by rw [← xe2]; exact heap_setCell_same _ _ 2 _ 96 _ xn2
  have HBBx := hid (show Below w4.heap.size w4 z3 from by
   rw [← xe2, ← xe1, ← xe0, ← ez]
   exact ((((Below.refl _ _).alloc (Nat.le_refl _) _).setCell (Nat.le_refl _) _).setCell (Nat.le_refl _) _).setCell (Nat.le_refl _) _)
  have HNBx := hid xn3
  clear nez xn0 xn1 xn2 xn3
  rcases her with rfl | rfl | rfl
  ·go_wp2_with fail
   go_ret
   exact ⟨rfl, HB4.out.trans (HBBx.out.mono HB4.out.size)⟩
  ·go_wp2_with fail
   go_ret
   exact ⟨rfl, HB4.out.trans (HBBx.out.mono HB4.out.size)⟩
  ·go_wp2_with fail
   go_ret
   exact ⟨rfl, HB4.out.trans (HBBx.out.mono HB4.out.size)⟩
 have HTB := hid htab
 obtain ⟨dvo, dvc, nvo, nvc, mvo, mvc, rfl, rfl, rfl, ht1, ht2, ht3⟩ := tab_parts htab
 have HH := hid (show validB G = true ∧ BuiltOk G n ∧ LA G n A ∧ clX (cntS (dS G n A)) (G.terms.length + 1) n = [] from ⟨hV, hO, hL, hno⟩)
 have HTP := hid (And.intro ht1 (And.intro ht2 ht3))
 clear hV hO hL hno htab ht1 ht2 ht3
 obtain ⟨Wz, ez⟩ : ∃ z, w4.alloc (.cells #[.slice none 0 0, .slice none 0 0, .slice none 0 0] 96) = z := ⟨_, rfl⟩
 have nez : Wz.heap[w4.heap.size]? = some (.cells #[.slice none 0 0, .slice none 0 0, .slice none 0 0] 96 (0, 0)) := by rw [← ez]; exact new_block _ _
 have xn0 : Wz.heap[w4.heap.size]? = some (.cells #[.slice none 0 0, .slice none 0 0, .slice none 0 0] 96 (0, 0)) := nez
 have xc0 : Wz.cell? ⟨w4.heap.size, 0, none⟩ = some (.slice none 0 0) := Lib.cell_of_heap xn0 0
 have xf0 := Lib.frozen_of_heap xn0 0
 obtain ⟨z1, xe0⟩ : ∃ z, Wz.setCell ⟨w4.heap.size, 0, none⟩ (.slice dvo n dvc) = z := ⟨_, rfl⟩
 have xn1 : z1.heap[w4.heap.size]? = some (.cells #[.slice dvo n dvc, .slice none 0 0, .slice none 0 0] 96 (0, 0)) := by rw [← xe0]; exact heap_setCell_same _ _ 0 _ 96 _ xn0
 have xc1 : z1.cell? ⟨w4.heap.size, 1, none⟩ = some (.slice none 0 0) := Lib.cell_of_heap xn1 1
 have xf1 := Lib.frozen_of_heap xn1 1
 obtain ⟨z2, xe1⟩ : ∃ z, z1.setCell ⟨w4.heap.size, 1, none⟩ (.slice nvo n nvc) = z := ⟨_, rfl⟩
 have xn2 : z2.heap[w4.heap.size]? = some (.cells #[.slice dvo n dvc, .slice nvo n nvc, .slice none 0 0] 96 (0, 0)) := by rw [← xe1]; exact heap_setCell_same _ _ 1 _ 96 _ xn1
 have xc2 : z2.cell? ⟨w4.heap.size, 2, none⟩ = some (.slice none 0 0) := Lib.cell_of_heap xn2 2
 have xf2 := Lib.frozen_of_heap xn2 2
 obtain ⟨w5, xe2⟩ : ∃ z, z2.setCell ⟨w4.heap.size, 2, none⟩ (.slice mvo n mvc) = z := ⟨_, rfl⟩
 have xn3 : w5.heap[w4.heap.size]? = some (.cells #[.slice dvo n dvc, .slice nvo n nvc, .slice mvo n mvc] 96 (0, 0)) := by rw [← xe2]; exact heap_setCell_same _ _ 2 _ 96 _ xn2
 have HBBx := hid (show Below w4.heap.size w4 w5 from by
  rw [← xe2, ← xe1, ← xe0, ← ez]
  exact ((((Below.refl _ _).alloc (Nat.le_refl _) _).setCell (Nat.le_refl _) _).setCell (Nat.le_refl _) _).setCell (Nat.le_refl _) _)
 have HNBx := hid xn3
 clear nez xn0 xn1 xn2 xn3
 have HB5 := hid (HB4.out.trans (HBBx.out.mono HB4.out.size))
 have HN5 := hid ((HBBx.out.block _ (Array.getElem?_eq_some_iff.1 HN4.out).1).trans HN4.out)
 have HBX := hid (show ∀ w', Below w5.heap.size w5 w' → w'.cell? ⟨w4.heap.size, 0, none⟩ = some (.slice dvo n dvc) ∧ w'.cell? ⟨w4.heap.size, 1, none⟩ = some (.slice nvo n nvc) ∧ w'.cell? ⟨w4.heap.size, 2, none⟩ = some (.slice mvo n mvc) from fun w' hC => ⟨cell_below hC (Lib.cell_of_heap HNBx.out 0), cell_below hC (Lib.cell_of_heap HNBx.out 1), cell_below hC (Lib.cell_of_heap HNBx.out 2)⟩)
 obtain ⟨b, r, hrun⟩ := runs_some HH.out.1 HH.out.2.1 HH.out.2.2.1 HH.out.2.2.2 []
 have HRUN := hid hrun
 have hr : r = [] := List.eq_nil_of_suffix_nil hrun.left
 subst hr
 obtain ⟨q0, q1, q2⟩ := HBX.out w5 (Below.refl _ _)
 have c0 : w5.cell? ⟨w.heap.size, 0, none⟩ = some (tv) := Lib.cell_of_heap HN5.out 0
 have c1 : w5.cell? ⟨w.heap.size, 1, none⟩ = some (ov) := Lib.cell_of_heap HN5.out 1
 have c2 : w5.cell? ⟨w.heap.size, 2, none⟩ = some (sv) := Lib.cell_of_heap HN5.out 2
 have c3 : w5.cell? ⟨w.heap.size, 3, none⟩ = some (pv) := Lib.cell_of_heap HN5.out 3
 have c4 : w5.cell? ⟨w.heap.size, 4, none⟩ = some (.int .i64 G.start) := Lib.cell_of_heap HN5.out 4
 have KR := hid (Run_any (l := []) (HGr.out.below HB5.out) (HT.out.on (HB5.out.mono hBt)) (Nat.le_trans hBt HB5.out.size) HH.out.1 HH.out.2.1 HH.out.2.2.1 HH.out.2.2.2 (HTB.out.below HBBx.out) (rights0 _) (by decide) hrun)
 clear hrun
 go_wp2_with fail
 refine KR.out.mono ?_
 rintro e w6 ⟨rfl, hb6⟩
 have HB6 := hid (HB5.out.trans (hb6.mono HB5.out.size))
 have HN6 := hid ((hb6.block _ (Array.getElem?_eq_some_iff.1 HN5.out).1).trans HN5.out)
 clear xc0 xf0 xc1 xf1 xc2 xf2 xe0 xe1 xe2 ez c0 c1 c2 c3 c4 q0 q1 q2 KR hb6
 obtain ⟨we, ewe⟩ : ∃ z, w6.drew = z := ⟨_, rfl⟩
 have hbe : Below w6.heap.size w6 we := by rw [← ewe]; exact (Below.refl _ _).drew
 have HBe := hid (HB6.out.trans (hbe.mono HB6.out.size))
 have HNe := hid ((hbe.block _ (Array.getElem?_eq_some_iff.1 HN6.out).1).trans HN6.out)
 have HH0 : we.cell? ⟨w.heap.size, 0, none⟩ = some (tv) ∧ we.cell? ⟨w.heap.size, 1, none⟩ = some (ov) ∧ we.cell? ⟨w.heap.size, 2, none⟩ = some (sv) ∧ we.cell? ⟨w.heap.size, 3, none⟩ = some (pv) ∧ we.cell? ⟨w.heap.size, 4, none⟩ = some (.int .i64 G.start) := ⟨Lib.cell_of_heap HNe.out 0, Lib.cell_of_heap HNe.out 1, Lib.cell_of_heap HNe.out 2, Lib.cell_of_heap HNe.out 3, Lib.cell_of_heap HNe.out 4⟩
 have KE := hid (S13.Empty_any (HGA.out.mono HBe.out) HH.out.1)
 have hgv2 := HGA.out.eq
 clear hbe
 go_wp2_with fail
 refine region_T 15 (fun w' => w'.cell? ⟨w.heap.size, 0, none⟩ = some (tv) ∧ w'.cell? ⟨w.heap.size, 1, none⟩ = some (ov) ∧ w'.cell? ⟨w.heap.size, 2, none⟩ = some (sv) ∧ w'.cell? ⟨w.heap.size, 3, none⟩ = some (pv) ∧ w'.cell? ⟨w.heap.size, 4, none⟩ = some (.int .i64 G.start)) (by kernel_rfl) (by rw [ewe]; exact HH0) (fun inv hHeld => ?_)
 rw [ewe]
 clear hHeld ewe
 iterate 10
  refine anyT_auto (v := ?_) rfl (by kernel_rfl) (fun _ _ _ h => h) (Or.inl ⟨by rfl, ?_⟩) HH0 inv (fun inv => ?_)
  rotate_left
  ·intro w hSw
   try dsimp only at hSw
   go_simp
   try with_reducible rfl
  simp only [Act.put, sjA, sj0, sjS]
 refine anyT_next (i := 8) (o := { dst := some 39, op := Go.Op.call { callee := Go.Callee.value (Go.Operand.func 43), args := #[Go.Operand.tmp 38], argTypes := #[27] }, type := 75, pos := "law.go:251", after := #[{ on := 7, ground := Go.Ground.data }, { on := 5, ground := Go.Ground.chain }, { on := 5, ground := Go.Ground.guard }], guard := some (5, true) }) (by kernel_rfl) rfl (by decide) inv (fun inv K' hK => ?_)
 go_simp
 refine KE.out.mono ?_
 rintro e w8 ⟨lb, L, rfl, hLe, hLh, hLs, hb8⟩
 have HB8 := hid (HBe.out.trans (hb8.mono HBe.out.size))
 have HNW := hid ((hb8.block _ (Array.getElem?_eq_some_iff.1 HNe.out).1).trans HNe.out)
 have HH1 : w8.cell? ⟨w.heap.size, 0, none⟩ = some (tv) ∧ w8.cell? ⟨w.heap.size, 1, none⟩ = some (ov) ∧ w8.cell? ⟨w.heap.size, 2, none⟩ = some (sv) ∧ w8.cell? ⟨w.heap.size, 3, none⟩ = some (pv) ∧ w8.cell? ⟨w.heap.size, 4, none⟩ = some (.int .i64 G.start) := ⟨Lib.cell_of_heap HNW.out 0, Lib.cell_of_heap HNW.out 1, Lib.cell_of_heap HNW.out 2, Lib.cell_of_heap HNW.out 3, Lib.cell_of_heap HNW.out 4⟩
 have hst := valid_start HH.out.1
 have hcell := S13.cell_bools hLh (i := G.start.toNat) (by rw [hLe.length]; omega)
 have hb := (empty_runs HH.out.1 HH.out.2.1 HH.out.2.2.1 HH.out.2.2.2 HRUN.out hLe).2
 rw [← hb] at hcell
 have s0 : 0 ≤ G.start := hst.1
 have s1 : G.start < (G.sorts.length : Int) := hst.2.2.2.2.2
 generalize G.sorts.length = ns at *
 generalize G.start = st at *
 clear hLe hLh hLs hb hb8 hst
 refine hK.out _ _ HH1 ?_
 clear hK K' HH0
 try simp only [Act.put, sjA, sj0, sjS]
 refine anyT_next (i := 11) (o := { dst := some 42, op := Go.Op.indexAddr 75 (Go.Operand.tmp 39) (Go.Operand.tmp 41), type := 0, pos := "law.go:251", after := #[{ on := 8, ground := Go.Ground.data }, { on := 10, ground := Go.Ground.data }, { on := 5, ground := Go.Ground.guard }], guard := some (5, true) }) (by kernel_rfl) rfl (by decide) inv (fun inv K' hK => ?_)
 go_simp
 refine hK.out _ _ HH1 ?_
 clear hK K'
 try simp only [Act.put, sjA, sj0, sjS]
 refine anyT_next (i := 12) (o := { dst := some 43, op := Go.Op.load 4 (Go.Operand.tmp 42), type := 4, pos := "law.go:251", after := #[{ on := 11, ground := Go.Ground.data }, { on := 5, ground := Go.Ground.guard }], guard := some (5, true) }) (by kernel_rfl) rfl (by decide) inv (fun inv K' hK => ?_)
 go_simp
 refine hK.out _ _ HH1 ?_
 clear hK K'
 try simp only [Act.put, sjA, sj0, sjS]
 refine anyT_next (i := 13) (o := { dst := some 44, op := Go.Op.binOp Go.BinOp.eql 4 (Go.Operand.tmp 37) (Go.Operand.tmp 43) 4, type := 4, pos := "law.go:251", after := #[{ on := 6, ground := Go.Ground.data }, { on := 12, ground := Go.Ground.data }, { on := 5, ground := Go.Ground.guard }], guard := some (5, true) }) (by kernel_rfl) rfl (by decide) inv (fun inv K' hK => ?_)
 go_simp
 refine hK.out _ _ HH1 ?_
 clear hK K'
 try simp only [Act.put, sjA, sj0, sjS]
 refine anyT_next (i := 14) (o := { dst := some 45, op := Go.Op.pick (Go.Operand.tmp 36) (Go.Operand.tmp 44) (Go.Operand.const (Go.Value.bool false)), type := 4, pos := "law.go:251", after := #[{ on := 5, ground := Go.Ground.data }, { on := 13, ground := Go.Ground.data }], guard := none }) (by kernel_rfl) rfl (by decide) inv (fun inv K' hK => ?_)
 go_simp
 refine hK.out _ _ HH1 ?_
 clear hK K'
 try simp only [Act.put, sjA, sj0, sjS]
 refine anyT_one (i := 15) (o := { dst := some 2, op := Go.Op.assign (Go.Operand.tmp 45), type := 4, pos := "law.go:251", after := #[{ on := 14, ground := Go.Ground.data }, { on := 8, ground := Go.Ground.chain }, { on := 0, ground := Go.Ground.phase }, { on := 1, ground := Go.Ground.phase }, { on := 2, ground := Go.Ground.phase }, { on := 3, ground := Go.Ground.phase }, { on := 4, ground := Go.Ground.phase }, { on := 5, ground := Go.Ground.phase }, { on := 6, ground := Go.Ground.phase }, { on := 7, ground := Go.Ground.phase }, { on := 8, ground := Go.Ground.phase }, { on := 9, ground := Go.Ground.phase }, { on := 10, ground := Go.Ground.phase }, { on := 11, ground := Go.Ground.phase }, { on := 12, ground := Go.Ground.phase }, { on := 13, ground := Go.Ground.phase }, { on := 14, ground := Go.Ground.phase }], guard := none }) (by kernel_rfl) rfl (fun K' hK => ?_)
 go_simp
 refine hK.out _ _ (fun h => absurd h (by decide)) ?_
 clear hK K'
 try simp only [Act.put, sjA, sj0, sjS]
 refine anyT_done (by kernel_rfl) ?_ _
 cases b
 ·go_wp2_with fail
  go_ret
  exact ⟨rfl, HB8.out⟩
 ·go_wp2_with fail
  go_ret
  exact ⟨rfl, HB8.out⟩
end Go.Proofs.YticmnfmijdgmbaaGreatDoor

/- A law's last step, for a walk that lays new memory alone: whatever lay before the call lies behind it. -/
namespace Go.Proofs.YticmnfmijdgmbaaGreatDoor
open Go Go.RowKit Go.WideShapes Go.ChangeShapes
theorem post_kept {H : Type} {enc : TypeId × Value → H} {P : Program} {f : Func} {s : ChangeSpec} {apart fresh handsOn again : Bool} {W W' : World} {args : Array Value} {v : Value} {ds gs : List (DataW H)} {before pa pv : List MemPlace}
  (hW : DataW.Whole enc P f.params.toList s.vars apart W args.toList ds gs before)
  (hres : ∀ (b : Nat) (sp : Nat → Bool) (hd : Bool), DataW.TrodAll enc P W' b sp hd f.resultTypes.toList (v.resultList f.resultTypes.size) (s.fn H (ds ++ gs)).results [])
  (hargs : ∀ sp : Nat → Bool, (∀ p ∈ before, sp p.block = true) → DataW.TrodAll enc P W' 0 sp true f.params.toList args.toList (s.fn H (ds ++ gs)).args pa)
  (hvars : ∀ sp : Nat → Bool, (∀ p ∈ before, sp p.block = true) → DataW.TrodVars enc P W' sp s.vars (s.fn H (ds ++ gs)).vars pv)
  (hps : before = pa ++ pv) (hb : Below W.heap.size W W')
  (hok : ∀ (j : Nat) (t : TypeId) (r : Value), f.resultTypes[j]? = some t → (v.resultList f.resultTypes.size)[j]? = some r → Value.okWide P W' .any 0 t r) :
  s.post enc P f apart fresh handsOn again W args v W' := by
 have old : ∀ p ∈ before, decide (p.block < W.heap.size) = true := fun p hp => decide_eq_true (hW.lt p hp)
 have inside : ∀ p, p ∈ pa ++ pv → p ∈ before := fun p hp => by rw [hps]; exact hp
 refine ⟨ds, gs, before, [], pa, pv, hW, hres _ _ _, hargs _ old, hvars _ old, World.keptBut_mono (fun p hp => ⟨hp, ?_⟩) (hb.frame (· ∈ before)), fun _ => ⟨hok, _, _, [] ++ pa ++ pv, ⟨[] ++ pa, pv, trodAll_append (hargs _ fun _ _ => rfl) (hres _ _ _), hvars _ fun _ _ => rfl, rfl, ?_, ?_⟩, ?_⟩⟩
 ·exact .inr (List.mem_append.1 (hps ▸ hp))
 ·intro b off hp
  have hW0 := hW
  obtain ⟨_, _, _, _, _, hz, _⟩ := hW
  have hin := inside _ (by simpa using hp)
  exact (hb.frozen (p := ⟨b, off, none⟩) (hW0.lt _ hin)).trans (hz b off hin)
 ·intro ha
  obtain ⟨_, _, _, _, _, _, hn⟩ := hW
  simpa [hps] using hn ha
 ·intro p hp _
  exact inside p (by simpa using hp)
end Go.Proofs.YticmnfmijdgmbaaGreatDoor

/- A law's last step, whatever the types of its parameters. -/
namespace Go.Proofs.YticmnfmijdgmbaaGreatDoor
open Go Go.RowKit Go.WideShapes Go.ChangeShapes
theorem all_stay {H : Type} {enc : TypeId × Value → H} {P : Program} (hl : laidOutB P = true) {W W' : World} (hb : Below W.heap.size W W') (sp : Nat → Bool) :
  ∀ (ts : List TypeId) (vs : List Value) (ds : List (DataW H)) (ps : List MemPlace), (ts.all fun t => P.readableRec t && decide (t < P.types.size)) = true → (∀ x ∈ ps, x.block < W.heap.size) → (∀ x ∈ ps, sp x.block = true) →
   DataW.TrodAll enc P W 0 (fun _ => true) true ts vs ds ps → DataW.TrodAll enc P W' 0 sp true ts vs ds ps
 | [], [], [], _, _, _, _, h => h
 | t :: ts, v :: vs, d :: ds, _, ht, hlt, hsp, h => by
  obtain ⟨p, q, h1, h2, rfl⟩ := h
  simp only [List.all_cons, Bool.and_eq_true, decide_eq_true_eq] at ht
  exact ⟨p, q, WideElems.Trod_stays hl ht.1.1 ht.1.2 h1 (fun x hx => hb.same (hlt x (List.mem_append_left _ hx))) (fun x hx => hsp x (List.mem_append_left _ hx)),
   all_stay hl hb sp ts vs ds q (by simpa using ht.2) (fun x hx => hlt x (List.mem_append_right _ hx)) (fun x hx => hsp x (List.mem_append_right _ hx)) h2, rfl⟩
 | [], [], _ :: _, _, _, _, _, h => h.elim
 | [], _ :: _, _, _, _, _, _, h => by cases ‹List (DataW H)› <;> exact h.elim
 | _ :: _, [], _, _, _, _, _, h => by cases ‹List (DataW H)› <;> exact h.elim
 | _ :: _, _ :: _, [], _, _, _, _, h => h.elim
theorem post_law {H : Type} {enc : TypeId × Value → H} {P : Program} {f : Func} {s : ChangeSpec} {apart fresh handsOn again : Bool} {W W' : World} {args : Array Value} {ds gs : List (DataW H)} {before : List MemPlace}
  (hl : laidOutB P = true) (ht : (f.params.toList.all fun t => P.readableRec t && decide (t < P.types.size)) = true) (hv : s.vars = []) (t : TypeId) (hf : f.resultTypes = #[t]) (hu : P.underlying t = some .bool)
  (hW : DataW.Whole enc P f.params.toList s.vars apart W args.toList ds gs before)
  (hA : DataW.TrodAll enc P W 0 (fun _ => true) true f.params.toList args.toList ds before)
  (hres : (s.fn H (ds ++ gs)).results = [.lit (.bool true)]) (hargs : (s.fn H (ds ++ gs)).args = ds) (hvs : (s.fn H (ds ++ gs)).vars = []) (hb : Below W.heap.size W W') :
  s.post enc P f apart fresh handsOn again W args (.bool true) W' := by
 have hlt : ∀ x ∈ before, x.block < W.heap.size := fun x hx => hW.lt x hx
 refine post_kept (pa := before) (pv := []) hW (fun _ _ _ => ?_) (fun sp hsp => ?_) (fun sp _ => ?_) (by simp) hb ?_
 ·rw [hres, hf]
  exact trodAll_cons_mk (shut_bool hu _) trodAll_mk0
 ·rw [hargs]
  exact all_stay hl hb sp _ _ _ _ ht hlt hsp hA
 ·rw [hvs, hv]
  rfl
 ·exact ok_one hf rfl (okWide_bool_mk hu _)
end Go.Proofs.YticmnfmijdgmbaaGreatDoor
