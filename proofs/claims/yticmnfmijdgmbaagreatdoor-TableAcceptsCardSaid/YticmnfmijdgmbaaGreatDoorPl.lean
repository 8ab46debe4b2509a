/- Derived: whether a row is derived from the start. -/
import Derived.Test.YticmnfmijdgmbaaGreatDoorGa
import Derived.Test.YticmnfmijdgmbaaGreatDoorYq
import Derived.Test.YticmnfmijdgmbaaGreatDoorSl
import Derived.Test.YticmnfmijdgmbaaGreatDoorYu
import Derived.Below
import Derived.ChangeSame
import Derived.Carry
import Derived.OpenShut
set_option linter.unusedVariables false
set_option linter.unusedSimpArgs false
namespace Go.Proofs.YticmnfmijdgmbaaGreatDoor
open Go Go.RowKit Go.Lib
open X14 (It exG closeX iterB BuiltOk BuiltMany rightX behX sortX)
open S13 (u64 bitN top E0 F0 Sub hasN)
open S16
open S13.X15 (Pl LeastA askX places cxB)
def DerivedP (G : GD) (n : Nat) (D : Nat -> Nat -> List It) (l : List Int) (w : World) (e : Ending) (w' : World) : Prop :=
 ∃ C, e = .returned (.bool (C G.start.toNat 0 l.length)) /\ LR.TellsE (mG G n D) l C /\ LR.ClosedE (mG G n D) l C /\ Below w.heap.size w w'
set_option maxRecDepth 100000 in
set_option maxHeartbeats 16000000 in
theorem Derived_any {G : GD} {gv lv : Value} {w : World} {l : List Int} {n : Nat} {D : Nat -> Nat -> List It} (h : Gram w gv G) (hV : validB G = true) (hl : IntsAt w lv l) (hll : l.length <= 900) : Calls Tryz.prog 41 #[gv, lv] w (DerivedP G n D l w) := by
 have HGr := hid h
 obtain ⟨tv, ov, sv, pv, tf, rv, h⟩ := h
 have HGA := hid h
 have hgv := h.eq
 subst hgv
 have HLI := hid hl
 have HV := hid hV
 have hst := valid_start hV
 obtain ⟨lo, lc, rfl, _, _⟩ := id hl.1
 obtain ⟨N, hN0⟩ := nmQ (l.length)
 obtain ⟨S, hS⟩ := nmQ (G.sorts.length)
 obtain ⟨A, hA⟩ : ∃ A : Nat, G.start = (A : Int) := ⟨G.start.toNat, by omega⟩
 obtain ⟨M, hM⟩ := nmQ (N + 1)
 have HN := hid (show l.length = N /\ G.sorts.length = S /\ G.start.toNat = A /\ N <= 900 /\ A < S /\ N + 1 = M from ⟨hN0, hS, by omega, by omega, by omega, hM⟩)
 have n60 : N <= 900 := by omega
 rw [hN0] at HLI
 rw [hN0]
 rw [hA] at HGr HGA
 rw [hA]
 obtain ⟨W1, e1⟩ := nmQ (w.alloc (.cells #[tv, ov, sv, pv, .int .i64 (A : Int)] 27))
 have n1 : W1.heap[w.heap.size]? = some (.cells #[tv, ov, sv, pv, .int .i64 (A : Int)] 27 (0, 0)) := nbQ e1
 have hb1 : Below w.heap.size w W1 := baQ e1
 have HB1 := hid hb1
 have HN1 := hid n1
 obtain ⟨c0, c1, c2, c3, c4⟩ := cells5 n1
 have KV := hid (RValid_any (HGA.out.mono HB1.out))
 rw [HV.out] at KV
 clear h hV hl hll hN0 hS hA hst n1 hb1 hM
 go_enter Tryz.func41, Tryz.ntmps41
 go_wp2_with fail
 refine KV.out.mono ?_
 rintro e w2 ⟨rfl, hb2⟩
 have HB2 := hid (HB1.out.trans (hb2.mono HB1.out.size))
 have HN2 := hid ((hb2.block _ (ltQ HN1.out)).trans HN1.out)
 clear c0 c1 c2 c3 c4 KV hb2 e1
 obtain ⟨wd, ewd⟩ := nmQ (w2.drew)
 have hbd : Below w2.heap.size w2 wd := bdQ ewd
 have HBd := hid (HB2.out.trans (hbd.mono HB2.out.size))
 have HS := hid (show ∀ w', Below wd.heap.size wd w' -> w'.cell? ⟨w.heap.size, 0, none⟩ = some (tv) /\ w'.cell? ⟨w.heap.size, 1, none⟩ = some (ov) /\ w'.cell? ⟨w.heap.size, 2, none⟩ = some (sv) /\ w'.cell? ⟨w.heap.size, 3, none⟩ = some (pv) /\ w'.cell? ⟨w.heap.size, 4, none⟩ = some (.int .i64 (A : Int)) from fun w' hC => by
  have nG := ((hbd.trans (hC.mono hbd.size)).block _ (ltQ HN2.out)).trans HN2.out
  exact cells5 nG)
 have HH0 := HS.out wd (Below.refl _ _)
 have KS := hid (Span_any (n := n) (D := D) (M := M) (HGr.out.below HBd.out) HV.out (HLI.out.mono HBd.out) (by have := HN.out; omega) (by have := HN.out; omega))
 clear hbd
 go_wp2_with fail
 refine region_T 16 (fun w' => w'.cell? ⟨w.heap.size, 0, none⟩ = some (tv) /\ w'.cell? ⟨w.heap.size, 1, none⟩ = some (ov) /\ w'.cell? ⟨w.heap.size, 2, none⟩ = some (sv) /\ w'.cell? ⟨w.heap.size, 3, none⟩ = some (pv) /\ w'.cell? ⟨w.heap.size, 4, none⟩ = some (.int .i64 (A : Int))) (by kernel_rfl) (by rw [ewd]; exact HH0) (fun inv hHeld => ?_)
 rw [ewd]
 clear hHeld ewd
 iterate 8
  refine anyT_auto (v := ?_) rfl (by kernel_rfl) (fun _ _ _ h => h) (Or.inl ⟨by rfl, ?_⟩) HH0 inv (fun inv => ?_)
  rotate_left
  ·intro w hSw
   try dsimp only at hSw
   go_simp
   try with_reducible rfl
  simp only [Act.put, sjA, sj0, sjS]
 refine anyT_next (i := 4) (o := { dst := some 12, op := .call { callee := .value (.func 83), args := #[.tmp 10, .tmp 11], argTypes := #[27, 43] }, type := 148, pos := "ref.go:109", after := #[{ on := 2, ground := .data }, { on := 3, ground := .data }, { on := 1, ground := .chain }, { on := 1, ground := .guard }], guard := some (1, true) }) (by kernel_rfl) rfl (by decide) inv (fun inv K' hK => ?_)
 go_simp
 refine KS.out.mono ?_
 rintro e w5 ⟨v, C, rfl, hcan, hte, hce, hb5⟩
 have HTE := hid hte
 have HCE := hid hce
 have HBF := hid (HBd.out.trans (hb5.mono HBd.out.size))
 have HH1 := HS.out w5 hb5
 rw [HN.out.2.1] at hcan
 obtain ⟨vo, vc, rfl, _⟩ := hcan.len
 obtain ⟨b1, o1, u1, rfl, x1, x2⟩ := hcan.at_ HN.out.2.2.2.2.1
 obtain ⟨co1, cc1, rfl, _⟩ := x2.len
 obtain ⟨b2, o2, u2', rfl, x3, x4⟩ := x2.at_ (show 0 < M by have := HN.out; omega)
 obtain ⟨co2, cc2, rfl, _, x5⟩ := x4
 obtain ⟨b3, o3, rfl, x6⟩ := x5 (by have := HN.out; omega)
 have x7 := x6 N (by have := HN.out; omega)
 have x3 : w5.cell? ⟨b2, o2, none⟩ = some _ := x3
 obtain ⟨cb, hcb⟩ := nmQ (C A 0 N)
 have HCV := hid hcb
 have x7 : w5.cell? ⟨b3, o3 + N, none⟩ = some (.bool cb) := hcb ▸ x7
 have y0 : (0 : Int) <= (A : Int) := by omega
 have y1 : (A : Int) < (S : Int) := by have := HN.out; omega
 have y2 : (N : Int) < (M : Int) := by have := HN.out; omega
 have y3 : (0 : Int) <= (N : Int) := by omega
 have y5 : 0 < M := by have := HN.out; omega
 have y4 : (0 : Int) < (M : Int) := by have := HN.out; omega
 clear hcan hte hce hb5 x2 x5 x6 hcb
 refine hK.out _ _ HH1 ?_
 clear hK K' HH0
 try simp only [Act.put, sjA, sj0, sjS]
 refine anyT_next (i := 7) (o := { dst := some 15, op := .indexAddr 148 (.tmp 12) (.tmp 14), type := 0, pos := "ref.go:109", after := #[{ on := 4, ground := .data }, { on := 6, ground := .data }, { on := 1, ground := .guard }], guard := some (1, true) }) (by kernel_rfl) rfl (by decide) inv (fun inv K' hK => ?_)
 go_simp
 refine hK.out _ _ HH1 ?_
 clear hK K'
 try simp only [Act.put, sjA, sj0, sjS]
 refine anyT_next (i := 8) (o := { dst := some 16, op := .load 147 (.tmp 15), type := 147, pos := "ref.go:109", after := #[{ on := 7, ground := .data }, { on := 1, ground := .guard }], guard := some (1, true) }) (by kernel_rfl) rfl (by decide) inv (fun inv K' hK => ?_)
 go_simp
 refine hK.out _ _ HH1 ?_
 clear hK K'
 try simp only [Act.put, sjA, sj0, sjS]
 refine anyT_next (i := 9) (o := { dst := some 17, op := .indexAddr 147 (.tmp 16) (.const (.int .i64 0)), type := 0, pos := "ref.go:109", after := #[{ on := 8, ground := .data }, { on := 1, ground := .guard }], guard := some (1, true) }) (by kernel_rfl) rfl (by decide) inv (fun inv K' hK => ?_)
 go_simp
 refine hK.out _ _ HH1 ?_
 clear hK K'
 try simp only [Act.put, sjA, sj0, sjS]
 refine anyT_next (i := 10) (o := { dst := some 18, op := .load 75 (.tmp 17), type := 75, pos := "ref.go:109", after := #[{ on := 9, ground := .data }, { on := 1, ground := .guard }], guard := some (1, true) }) (by kernel_rfl) rfl (by decide) inv (fun inv K' hK => ?_)
 go_simp
 refine hK.out _ _ HH1 ?_
 clear hK K'
 try simp only [Act.put, sjA, sj0, sjS]
 refine anyT_next (i := 13) (o := { dst := some 21, op := .indexAddr 75 (.tmp 18) (.tmp 20), type := 0, pos := "ref.go:109", after := #[{ on := 10, ground := .data }, { on := 12, ground := .data }, { on := 1, ground := .guard }], guard := some (1, true) }) (by kernel_rfl) rfl (by decide) inv (fun inv K' hK => ?_)
 go_simp
 refine hK.out _ _ HH1 ?_
 clear hK K'
 try simp only [Act.put, sjA, sj0, sjS]
 refine anyT_next (i := 14) (o := { dst := some 22, op := .load 4 (.tmp 21), type := 4, pos := "ref.go:109", after := #[{ on := 13, ground := .data }, { on := 1, ground := .guard }], guard := some (1, true) }) (by kernel_rfl) rfl (by decide) inv (fun inv K' hK => ?_)
 go_simp
 refine hK.out _ _ HH1 ?_
 clear hK K'
 try simp only [Act.put, sjA, sj0, sjS]
 refine anyT_next (i := 15) (o := { dst := some 23, op := .pick (.tmp 9) (.tmp 22) (.const (.bool false)), type := 4, pos := "ref.go:109", after := #[{ on := 1, ground := .data }, { on := 14, ground := .data }], guard := none }) (by kernel_rfl) rfl (by decide) inv (fun inv K' hK => ?_)
 go_simp
 refine hK.out _ _ HH1 ?_
 clear hK K'
 try simp only [Act.put, sjA, sj0, sjS]
 refine anyT_one (i := 16) (o := { dst := some 4, op := .assign (.tmp 23), type := 4, pos := "ref.go:109", after := #[{ on := 15, ground := .data }, { on := 4, ground := .chain }, { on := 0, ground := .phase }, { on := 1, ground := .phase }, { on := 2, ground := .phase }, { on := 3, ground := .phase }, { on := 4, ground := .phase }, { on := 5, ground := .phase }, { on := 6, ground := .phase }, { on := 7, ground := .phase }, { on := 8, ground := .phase }, { on := 9, ground := .phase }, { on := 10, ground := .phase }, { on := 11, ground := .phase }, { on := 12, ground := .phase }, { on := 13, ground := .phase }, { on := 14, ground := .phase }, { on := 15, ground := .phase }], guard := none }) (by kernel_rfl) rfl (fun K' hK => ?_)
 go_simp
 refine hK.out _ _ (fun h => absurd h (by decide)) ?_
 clear hK K'
 try simp only [Act.put, sjA, sj0, sjS]
 refine anyT_done (by kernel_rfl) ?_ _
 go_wp2_with fail
 go_ret
 refine ⟨C, ?_, HTE.out, HCE.out, HBF.out⟩
 rw [HN.out.1, HN.out.2.2.1, HCV.out]
 rfl
end Go.Proofs.YticmnfmijdgmbaaGreatDoor

/- The walk of TableAccepts. -/
namespace Go.Proofs.YticmnfmijdgmbaaGreatDoor
open Go Go.RowKit Go.Lib
open X14 (It exG closeX iterB BuiltOk BuiltMany rightX behX sortX)
open S13 (u64 bitN top E0 F0 Sub hasN)
open S16
open S13.X15 (Pl LeastA askX places cxB)
set_option maxRecDepth 100000 in
set_option maxHeartbeats 16000000 in
theorem accepts16_walk {G : GD} {gv : Value} {w : World} {Bt : Nat} (h : Gram w gv G) {lv : Value} {l : List Int} (hl : IntsAt w lv l) (ht : Tab Bt w) (hBt : Bt <= w.heap.size) :
  Calls Tryz.prog 10 #[gv, lv] w fun e w' => e = .returned (.bool true) /\ Below w.heap.size w w' := by
 have HGr := hid h
 have HT := hid ht
 obtain ⟨tv, ov, sv, pv, tf, rv, h⟩ := h
 have HGA := hid h
 have hgv := h.eq
 subst hgv
 obtain ⟨W1, e1⟩ := nmQ (w.alloc (.cells #[tv, ov, sv, pv, .int .i64 G.start] 27))
 have hb1 : Below w.heap.size w W1 := baQ e1
 have n1 : W1.heap[w.heap.size]? = some (.cells #[tv, ov, sv, pv, .int .i64 G.start] 27 (0, 0)) := nbQ e1
 have HB1 := hid hb1
 have HN1 := hid n1
 have KW := hid (works16_any W1 (ht.on (hb1.mono hBt)) (Nat.le_trans hBt hb1.size))
 clear h hb1 n1 ht
 have HLI := hid hl
 obtain ⟨lo, lc, rfl, _⟩ := id hl.1
 obtain ⟨LN, hLN⟩ := nmQ (l.length)
 rw [hLN] at HLI ⊢
 have HLN := hid hLN
 clear hl hLN
 go_enter Tryz.func10, Tryz.ntmps10
 go_wp2_with fail
 refine KW.out.mono ?_
 rintro e w2 ⟨rfl, hb2⟩
 have HB2 := hid (HB1.out.trans (hb2.mono HB1.out.size))
 have HN2 := hid ((hb2.block _ (ltQ HN1.out)).trans HN1.out)
 obtain ⟨c0, c1, c2, c3, c4⟩ := cells5 HN2.out
 have KF := hid (Little_any (HGr.out.below HB2.out))
 clear hb2 KW e1
 go_wp2_with fail
 refine KF.out.mono ?_
 rintro e w3 ⟨fw, rfl, hb3⟩
 have HB3 := hid (HB2.out.trans (hb3.mono HB2.out.size))
 have HN3 := hid ((hb3.block _ (ltQ HN2.out)).trans HN2.out)
 clear hb3 KF c0 c1 c2 c3 c4
 cases fw
 ·go_wp2_with fail
  go_ret
  exact ⟨rfl, HB3.out⟩
 by_cases hl8 : 8 < LN
 ·have g0 : (8 : Int) < (LN : Int) := by omega
  have g1 : decide ((8 : Int) < (LN : Int)) = true := decide_eq_true g0
  have g2 : decide (8 < LN) = true := decide_eq_true hl8
  go_wp2_with fail
  go_ret
  exact ⟨rfl, HB3.out⟩
 have g0 : ¬ (8 : Int) < (LN : Int) := by omega
 have g1 : decide ((8 : Int) < (LN : Int)) = false := decide_eq_false g0
 have g2 : decide (8 < LN) = false := decide_eq_false hl8
 have HL8 := hid (show LN <= 8 from by omega)
 obtain ⟨c0, c1, c2, c3, c4⟩ := cells5 HN3.out
 have KB := hid (BuildT_any (HGr.out.below HB3.out) (HT.out.on (HB3.out.mono hBt)) (Nat.le_trans hBt HB3.out.size))
 go_wp2_with fail
 refine KB.out.mono ?_
 rintro e w4 hbp
 obtain ⟨hb4, hcase⟩ := build_cases hbp
 have HB4 := hid (HB3.out.trans (hb4.mono HB3.out.size))
 have HN4 := hid ((hb4.block _ (ltQ HN3.out)).trans HN3.out)
 clear KB c0 c1 c2 c3 c4 hbp
 rcases hcase with ⟨er, her, rfl⟩ | ⟨n, A, dv, nv, mv, hV, hO, hL, hno, rfl, htab⟩
 ·unfold zeroTab
  obtain ⟨Wz, ez⟩ := nmQ (w4.alloc (.cells #[.slice none 0 0, .slice none 0 0, .slice none 0 0] 96))
  have nez : Wz.heap[w4.heap.size]? = some (.cells #[.slice none 0 0, .slice none 0 0, .slice none 0 0] 96 (0, 0)) := nbQ ez
  have xn0 : Wz.heap[w4.heap.size]? = some (.cells #[.slice none 0 0, .slice none 0 0, .slice none 0 0] 96 (0, 0)) := nez
  have xc0 : Wz.cell? ⟨w4.heap.size, 0, none⟩ = some (.slice none 0 0) := Lib.cell_of_heap xn0 0
  have xf0 := Lib.frozen_of_heap xn0 0
  obtain ⟨z1, xe0⟩ := nmQ (Wz.setCell ⟨w4.heap.size, 0, none⟩ (.slice none 0 0))
  have xn1 : z1.heap[w4.heap.size]? = some (.cells #[.slice none 0 0, .slice none 0 0, .slice none 0 0] 96 (0, 0)) := hsQ xe0 xn0
  have xc1 : z1.cell? ⟨w4.heap.size, 1, none⟩ = some (.slice none 0 0) := Lib.cell_of_heap xn1 1
  have xf1 := Lib.frozen_of_heap xn1 1
  obtain ⟨z2, xe1⟩ := nmQ (z1.setCell ⟨w4.heap.size, 1, none⟩ (.slice none 0 0))
  have xn2 : z2.heap[w4.heap.size]? = some (.cells #[.slice none 0 0, .slice none 0 0, .slice none 0 0] 96 (0, 0)) := hsQ xe1 xn1
  have xc2 : z2.cell? ⟨w4.heap.size, 2, none⟩ = some (.slice none 0 0) := Lib.cell_of_heap xn2 2
  have xf2 := Lib.frozen_of_heap xn2 2
  obtain ⟨z3, xe2⟩ := nmQ (z2.setCell ⟨w4.heap.size, 2, none⟩ (.slice none 0 0))
  have xn3 : z3.heap[w4.heap.size]? = some (.cells #[.slice none 0 0, .slice none 0 0, .slice none 0 0] 96 (0, 0)) := hsQ xe2 xn2
  have HBBx := hid (show Below w4.heap.size w4 z3 from by
   rw [<- xe2, <- xe1, <- xe0, <- ez]
   exact ((((Below.refl _ _).alloc (Nat.le_refl _) _).setCell (Nat.le_refl _) _).setCell (Nat.le_refl _) _).setCell (Nat.le_refl _) _)
  have HNBx := hid xn3
  clear nez xn0 xn1 xn2 xn3
  rcases her with rfl | rfl | rfl
  ·go_wp2_with fail
   go_ret
   exact ⟨rfl, HB4.out.trans (HBBx.out.mono HB4.out.size)⟩
  ·go_wp2_with fail
   go_ret
   exact ⟨rfl, HB4.out.trans (HBBx.out.mono HB4.out.size)⟩
  ·go_wp2_with fail
   go_ret
   exact ⟨rfl, HB4.out.trans (HBBx.out.mono HB4.out.size)⟩
 have HTB := hid htab
 obtain ⟨dvo, dvc, nvo, nvc, mvo, mvc, rfl, rfl, rfl, ht1, ht2, ht3⟩ := tab_parts htab
 have HH := hid (show validB G = true /\ BuiltOk G n /\ LA G n A /\ clX (cntS (dS G n A)) (G.terms.length + 1) n = [] from ⟨hV, hO, hL, hno⟩)
 have HTP := hid (And.intro ht1 (And.intro ht2 ht3))
 clear hV hO hL hno htab ht1 ht2 ht3
 obtain ⟨Wz, ez⟩ := nmQ (w4.alloc (.cells #[.slice none 0 0, .slice none 0 0, .slice none 0 0] 96))
 have nez : Wz.heap[w4.heap.size]? = some (.cells #[.slice none 0 0, .slice none 0 0, .slice none 0 0] 96 (0, 0)) := nbQ ez
 have xn0 : Wz.heap[w4.heap.size]? = some (.cells #[.slice none 0 0, .slice none 0 0, .slice none 0 0] 96 (0, 0)) := nez
 have xc0 : Wz.cell? ⟨w4.heap.size, 0, none⟩ = some (.slice none 0 0) := Lib.cell_of_heap xn0 0
 have xf0 := Lib.frozen_of_heap xn0 0
 obtain ⟨z1, xe0⟩ := nmQ (Wz.setCell ⟨w4.heap.size, 0, none⟩ (.slice dvo n dvc))
 have xn1 : z1.heap[w4.heap.size]? = some (.cells #[.slice dvo n dvc, .slice none 0 0, .slice none 0 0] 96 (0, 0)) := hsQ xe0 xn0
 have xc1 : z1.cell? ⟨w4.heap.size, 1, none⟩ = some (.slice none 0 0) := Lib.cell_of_heap xn1 1
 have xf1 := Lib.frozen_of_heap xn1 1
 obtain ⟨z2, xe1⟩ := nmQ (z1.setCell ⟨w4.heap.size, 1, none⟩ (.slice nvo n nvc))
 have xn2 : z2.heap[w4.heap.size]? = some (.cells #[.slice dvo n dvc, .slice nvo n nvc, .slice none 0 0] 96 (0, 0)) := hsQ xe1 xn1
 have xc2 : z2.cell? ⟨w4.heap.size, 2, none⟩ = some (.slice none 0 0) := Lib.cell_of_heap xn2 2
 have xf2 := Lib.frozen_of_heap xn2 2
 obtain ⟨w5, xe2⟩ := nmQ (z2.setCell ⟨w4.heap.size, 2, none⟩ (.slice mvo n mvc))
 have xn3 : w5.heap[w4.heap.size]? = some (.cells #[.slice dvo n dvc, .slice nvo n nvc, .slice mvo n mvc] 96 (0, 0)) := hsQ xe2 xn2
 have HBBx := hid (show Below w4.heap.size w4 w5 from by
  rw [<- xe2, <- xe1, <- xe0, <- ez]
  exact ((((Below.refl _ _).alloc (Nat.le_refl _) _).setCell (Nat.le_refl _) _).setCell (Nat.le_refl _) _).setCell (Nat.le_refl _) _)
 have HNBx := hid xn3
 clear nez xn0 xn1 xn2 xn3
 have HB5 := hid (HB4.out.trans (HBBx.out.mono HB4.out.size))
 have HN5 := hid ((HBBx.out.block _ (ltQ HN4.out)).trans HN4.out)
 have HBX := hid (show ∀ w', Below w5.heap.size w5 w' -> w'.cell? ⟨w4.heap.size, 0, none⟩ = some (.slice dvo n dvc) /\ w'.cell? ⟨w4.heap.size, 1, none⟩ = some (.slice nvo n nvc) /\ w'.cell? ⟨w4.heap.size, 2, none⟩ = some (.slice mvo n mvc) from fun w' hC => ⟨cell_below hC (Lib.cell_of_heap HNBx.out 0), cell_below hC (Lib.cell_of_heap HNBx.out 1), cell_below hC (Lib.cell_of_heap HNBx.out 2)⟩)
 obtain ⟨b, r, hrun⟩ := runs_some HH.out.1 HH.out.2.1 HH.out.2.2.1 HH.out.2.2.2 l
 have HR1 := hid hrun
 clear hrun g0 g1 g2 hl8
 obtain ⟨q0, q1, q2⟩ := HBX.out w5 (Below.refl _ _)
 obtain ⟨c0, c1, c2, c3, c4⟩ := cells5 HN5.out
 have KR := hid (Run_any (HGr.out.below HB5.out) (HT.out.on (HB5.out.mono hBt)) (Nat.le_trans hBt HB5.out.size) HH.out.1 HH.out.2.1 HH.out.2.2.1 HH.out.2.2.2 (HTB.out.below HBBx.out) (HLI.out.mono HB5.out) (by have := HL8.out; rw [HLN.out]; omega) HR1.out)
 rw [HLN.out] at KR
 go_wp2_with fail
 refine KR.out.mono ?_
 rintro e w6 ⟨rfl, hb6⟩
 obtain ⟨R1, hR1⟩ := nmQ (LN - r.length)
 rw [hR1]
 have HE1 := hid hR1
 have HB6 := hid (HB5.out.trans (hb6.mono HB5.out.size))
 have HN6 := hid ((hb6.block _ (ltQ HN5.out)).trans HN5.out)
 clear xc0 xf0 xc1 xf1 xc2 xf2 xe0 xe1 xe2 ez c0 c1 c2 c3 c4 q0 q1 q2 KR hb6 hR1
 obtain ⟨c0, c1, c2, c3, c4⟩ := cells5 HN6.out
 have KD := hid (Derived_any (n := n) (D := dS G n A) (HGr.out.below HB6.out) HH.out.1 (HLI.out.mono HB6.out) (by have := HL8.out; rw [HLN.out]; omega))
 go_wp2_with fail
 refine KD.out.mono ?_
 rintro e w7 ⟨C, rfl, hte, hce, hb7⟩
 have HB7 := hid (HB6.out.trans (hb7.mono HB6.out.size))
 obtain ⟨hacc, hz⟩ := acc_iff HH.out.1 HH.out.2.1 HH.out.2.2.1 HH.out.2.2.2 HR1.out hte hce
 rw [<- hacc]
 have hE1 := HE1.out
 have k0 : (0 : Int) <= (R1 : Int) := by omega
 have k1 : (R1 : Int) <= (LN : Int) := by omega
 clear c0 c1 c2 c3 c4 KD hte hce hacc
 cases b
 ·clear hz hE1
  go_wp2_with fail
  go_ret
  exact ⟨rfl, HB7.out⟩
 ·have hr := hz rfl
  obtain rfl : R1 = LN := by rw [hr] at hE1; simpa using hE1.symm
  clear hz hE1 hr
  go_wp2_with fail
  go_ret
  exact ⟨rfl, HB7.out⟩
end Go.Proofs.YticmnfmijdgmbaaGreatDoor

/- A law's last step, for a walk that lays new memory alone: whatever lay before the call lies behind it. -/
namespace Go.Proofs.YticmnfmijdgmbaaGreatDoor
open Go Go.RowKit Go.WideShapes Go.ChangeShapes
theorem post_kept {H : Type} {enc : TypeId × Value -> H} {P : Program} {f : Func} {s : ChangeSpec} {apart fresh handsOn again : Bool} {W W' : World} {args : Array Value} {v : Value} {ds gs : List (DataW H)} {before pa pv : List MemPlace}
  (hW : DataW.Whole enc P f.params.toList s.vars apart W args.toList ds gs before)
  (hres : ∀ (b : Nat) (sp : Nat -> Bool) (hd : Bool), DataW.TrodAll enc P W' b sp hd f.resultTypes.toList (v.resultList f.resultTypes.size) (s.fn H (ds ++ gs)).results [])
  (hargs : ∀ sp : Nat -> Bool, (∀ p ∈ before, sp p.block = true) -> DataW.TrodAll enc P W' 0 sp true f.params.toList args.toList (s.fn H (ds ++ gs)).args pa)
  (hvars : ∀ sp : Nat -> Bool, (∀ p ∈ before, sp p.block = true) -> DataW.TrodVars enc P W' sp s.vars (s.fn H (ds ++ gs)).vars pv)
  (hps : before = pa ++ pv) (hb : Below W.heap.size W W')
  (hok : ∀ (j : Nat) (t : TypeId) (r : Value), f.resultTypes[j]? = some t -> (v.resultList f.resultTypes.size)[j]? = some r -> Value.okWide P W' .any 0 t r) :
  s.post enc P f apart fresh handsOn again W args v W' := by
 have old : ∀ p ∈ before, decide (p.block < W.heap.size) = true := fun p hp => decide_eq_true (hW.lt p hp)
 have inside : ∀ p, p ∈ pa ++ pv -> p ∈ before := fun p hp => by rw [hps]; exact hp
 refine ⟨ds, gs, before, [], pa, pv, hW, hres _ _ _, hargs _ old, hvars _ old, World.keptBut_mono (fun p hp => ⟨hp, ?_⟩) (hb.frame (· ∈ before)), fun _ => ⟨hok, _, _, [] ++ pa ++ pv, ⟨[] ++ pa, pv, trodAll_append (hargs _ fun _ _ => rfl) (hres _ _ _), hvars _ fun _ _ => rfl, rfl, ?_, ?_⟩, ?_⟩⟩
 ·exact .inr (List.mem_append.1 (hps ▸ hp))
 ·intro b off hp
  have hW0 := hW
  obtain ⟨_, _, _, _, _, hz, _⟩ := hW
  have hin := inside _ (by simpa using hp)
  exact (hb.frozen (p := ⟨b, off, none⟩) (hW0.lt _ hin)).trans (hz b off hin)
 ·intro ha
  obtain ⟨_, _, _, _, _, _, hn⟩ := hW
  simpa [hps] using hn ha
 ·intro p hp _
  exact inside p (by simpa using hp)
end Go.Proofs.YticmnfmijdgmbaaGreatDoor

/- A law's last step, whatever the types of its parameters. -/
namespace Go.Proofs.YticmnfmijdgmbaaGreatDoor
open Go Go.RowKit Go.WideShapes Go.ChangeShapes
theorem all_stay {H : Type} {enc : TypeId × Value -> H} {P : Program} (hl : laidOutB P = true) {W W' : World} (hb : Below W.heap.size W W') (sp : Nat -> Bool) :
  ∀ (ts : List TypeId) (vs : List Value) (ds : List (DataW H)) (ps : List MemPlace), (ts.all fun t => P.readableRec t && decide (t < P.types.size)) = true -> (∀ x ∈ ps, x.block < W.heap.size) -> (∀ x ∈ ps, sp x.block = true) ->
   DataW.TrodAll enc P W 0 (fun _ => true) true ts vs ds ps -> DataW.TrodAll enc P W' 0 sp true ts vs ds ps
 | [], [], [], _, _, _, _, h => h
 | t :: ts, v :: vs, d :: ds, _, ht, hlt, hsp, h => by
  obtain ⟨p, q, h1, h2, rfl⟩ := h
  simp only [List.all_cons, Bool.and_eq_true, decide_eq_true_eq] at ht
  exact ⟨p, q, WideElems.Trod_stays hl ht.1.1 ht.1.2 h1 (fun x hx => hb.same (hlt x (List.mem_append_left _ hx))) (fun x hx => hsp x (List.mem_append_left _ hx)),
   all_stay hl hb sp ts vs ds q (by simpa using ht.2) (fun x hx => hlt x (List.mem_append_right _ hx)) (fun x hx => hsp x (List.mem_append_right _ hx)) h2, rfl⟩
 | [], [], _ :: _, _, _, _, _, h => h.elim
 | [], _ :: _, _, _, _, _, _, h => by cases ‹List (DataW H)› <;> exact h.elim
 | _ :: _, [], _, _, _, _, _, h => by cases ‹List (DataW H)› <;> exact h.elim
 | _ :: _, _ :: _, [], _, _, _, _, h => h.elim
theorem post_law {H : Type} {enc : TypeId × Value -> H} {P : Program} {f : Func} {s : ChangeSpec} {apart fresh handsOn again : Bool} {W W' : World} {args : Array Value} {ds gs : List (DataW H)} {before : List MemPlace}
  (hl : laidOutB P = true) (ht : (f.params.toList.all fun t => P.readableRec t && decide (t < P.types.size)) = true) (hv : s.vars = []) (t : TypeId) (hf : f.resultTypes = #[t]) (hu : P.underlying t = some .bool)
  (hW : DataW.Whole enc P f.params.toList s.vars apart W args.toList ds gs before)
  (hA : DataW.TrodAll enc P W 0 (fun _ => true) true f.params.toList args.toList ds before)
  (hres : (s.fn H (ds ++ gs)).results = [.lit (.bool true)]) (hargs : (s.fn H (ds ++ gs)).args = ds) (hvs : (s.fn H (ds ++ gs)).vars = []) (hb : Below W.heap.size W W') :
  s.post enc P f apart fresh handsOn again W args (.bool true) W' := by
 have hlt : ∀ x ∈ before, x.block < W.heap.size := fun x hx => hW.lt x hx
 refine post_kept (pa := before) (pv := []) hW (fun _ _ _ => ?_) (fun sp hsp => ?_) (fun sp _ => ?_) (by simp) hb ?_
 ·rw [hres, hf]
  exact trodAll_cons_mk (shut_bool hu _) trodAll_mk0
 ·rw [hargs]
  exact all_stay hl hb sp _ _ _ _ ht hlt hsp hA
 ·rw [hvs, hv]
  rfl
 ·exact ok_one hf rfl (okWide_bool_mk hu _)
end Go.Proofs.YticmnfmijdgmbaaGreatDoor
