/- The walk of TableBuild. -/
import Derived.Test.YticmnfmijdgmbaaGreatDoorGb
import Derived.Test.YticmnfmijdgmbaaGreatDoorZt
namespace Go.Proofs.YticmnfmijdgmbaaGreatDoor
open Go Go.RowKit Go.Lib
open X14 (It exG closeX iterB BuiltOk BuiltMany rightX behX sortX)
open S13 (u64 bitN top E0 F0 Sub hasN)
open S16
open S13.X15 (Pl LeastA askX places cxB)
set_option linter.unusedVariables false
set_option linter.unusedSimpArgs false
theorem all_inv {G : GD} {w w' : World} {e : Ending} (h : AllTP G w e w') (hV : validB G = false) : Below w.heap.size w w' ∧ e = .returned (.tuple #[.slice none 0 0, .int .i64 1]) := by
 obtain ⟨hb, ⟨_, h⟩ | ⟨hV', _⟩⟩ := h
 ·exact ⟨hb, h⟩
 ·exact absurd (hV.symm.trans hV') (by decide)
theorem all_many {G : GD} {w w' : World} {e : Ending} (h : AllTP G w e w') (hV : validB G = true) {n : Nat} (hM : BuiltMany G n) : Below w.heap.size w w' ∧ e = .returned (.tuple #[.slice none 0 0, .int .i64 4]) := by
 obtain ⟨hb, ⟨hV', _⟩ | ⟨_, m, ⟨_, h⟩ | ⟨hO, _⟩⟩⟩ := h
 ·exact absurd (hV.symm.trans hV') (by decide)
 ·exact ⟨hb, h⟩
 ·exact (X14.Built.not hO hM).elim
theorem all_ok {G : GD} {w w' : World} {e : Ending} (h : AllTP G w e w') (hV : validB G = true) {n : Nat} (hO : BuiltOk G n) {A : Pl → Nat} (hL : LA G n A) : Below w.heap.size w w' ∧ ∃ vo vc, e = .returned (.tuple #[.slice vo n vc, .int .i64 0]) ∧
  RowsAt w' (.slice vo n vc) n (fun i u => RowsAt w' u (G.terms.length + 1) (fun k u' => ItemsAt w' u' (dS G n A i k))) := by
 obtain ⟨hb, ⟨hV', _⟩ | ⟨_, m, ⟨hM, h⟩ | ⟨hO', v, A', h, hL', hK⟩⟩⟩ := h
 ·exact absurd (hV.symm.trans hV') (by decide)
 ·exact (X14.Built.not hO hM).elim
 ·obtain rfl := X14.Built.one hO hO'
  obtain rfl : A = A' := funext fun q => LeastA.one hL hL' q
  obtain ⟨o, c, rfl, _⟩ := hK.len
  exact ⟨hb, o, c, h, hK⟩
theorem clash_ret {G : GD} {w w' : World} {e : Ending} (h : ClashesP G w e w') : Below w.heap.size w w' ∧ ∃ v, e = .returned v := by
 obtain ⟨hb, ⟨_, h⟩ | ⟨_, m, ⟨_, h⟩ | ⟨_, v, _, h, _⟩⟩⟩ := h
 ·exact ⟨hb, _, h⟩
 ·exact ⟨hb, _, h⟩
 ·exact ⟨hb, _, h⟩
theorem clash_ok {G : GD} {w w' : World} {e : Ending} (h : ClashesP G w e w') (hV : validB G = true) {n : Nat} (hO : BuiltOk G n) {A : Pl → Nat} (hL : LA G n A) : Below w.heap.size w w' ∧ ∃ o c, e = .returned (.slice o (clX (cntS (dS G n A)) (G.terms.length + 1) n).length c) := by
 obtain ⟨hb, ⟨hV', _⟩ | ⟨_, m, ⟨hM, h⟩ | ⟨hO', v, A', h, hL', hK⟩⟩⟩ := h
 ·exact absurd (hV.symm.trans hV') (by decide)
 ·exact (X14.Built.not hO hM).elim
 ·obtain rfl := X14.Built.one hO hO'
  obtain rfl : A = A' := funext fun q => LeastA.one hL hL' q
  obtain ⟨o, c, rfl⟩ := hK.shape
  exact ⟨hb, o, c, h⟩
theorem aut_ok {G : GD} {w w' : World} {e : Ending} (h : BuildP G w e w') (hV : validB G = true) {n : Nat} (hO : BuiltOk G n) : Below w.heap.size w w' ∧ ∃ ko kl kc no nl nc, e = .returned (.tuple #[.agg #[.slice ko kl kc, .slice no nl nc], .int .i64 0]) ∧
  AutAt w' (.agg #[.slice ko kl kc, .slice no nl nc]) (iterB G n).ker (iterB G n).nx := by
 obtain ⟨hb, ⟨hV', _⟩ | ⟨_, m, ⟨hM, h⟩ | ⟨hO', av, h, hau⟩⟩⟩ := h
 ·exact absurd (hV.symm.trans hV') (by decide)
 ·exact (X14.Built.not hO hM).elim
 ·obtain rfl := X14.Built.one hO hO'
  obtain ⟨kv, nv, rfl, h1, h2⟩ := id hau
  obtain ⟨o, c, rfl, _⟩ := h1.len
  obtain ⟨o', c', rfl, _⟩ := h2.len
  exact ⟨hb, _, _, _, _, _, _, h, hau⟩
theorem U64s.at_ {w : World} {o : Option Addr} {n c : Nat} {us : List Nat} (h : U64s w (.slice o n c) us) {k : Nat} (hk : k < us.length) : ∃ b off, o = some ⟨b, off, none⟩ ∧ w.cell? ⟨b, off + k, none⟩ = some (u64 (us.getD k 0)) := by
 obtain ⟨o', c', e, _, hcs⟩ := h
 injection e with e1 e2 e3
 subst e1
 obtain ⟨b, off, rfl, hq⟩ := hcs (by omega)
 exact ⟨b, off, rfl, hq k hk⟩
set_option maxRecDepth 100000 in
set_option maxHeartbeats 16000000 in
theorem build16_walk {G : GD} {gv : Value} {w : World} {Bt : Nat} (h : Gram w gv G) (ht : Tab Bt w) (hBt : Bt ≤ w.heap.size) :
  Calls Tryz.prog 9 #[gv] w fun e w' => e = .returned (.bool true) ∧ Below w.heap.size w w' := by
 have HGr := hid h
 have HT := hid ht
 obtain ⟨tv, ov, sv, pv, tf, rv, h⟩ := h
 have HGA := hid h
 have hgv := h.eq
 subst hgv
 obtain ⟨W1, e1⟩ : ∃ W1, w.alloc (.cells #[tv, ov, sv, pv, .int .i64 G.start] 27) = W1 := ⟨_, rfl⟩
 have hb1 : Below w.heap.size w W1 := by rw [← e1]; exact (Below.refl _ _).alloc (Nat.le_refl _) _
 have n1 : W1.heap[w.heap.size]? = some (.cells #[tv, ov, sv, pv, .int .i64 G.start] 27 (0, 0)) := by rw [← e1]; exact new_block _ _
 have HB1 := hid hb1
 have HN1 := hid n1
 have KW := hid (works16_any W1 (ht.on (hb1.mono hBt)) (Nat.le_trans hBt hb1.size))
 clear h hb1 n1 ht
 go_enter Tryz.func9, Tryz.ntmps9
 go_wp2_with fail
 refine KW.out.mono ?_
 rintro e w2 ⟨rfl, hb2⟩
 have HB2 := hid (HB1.out.trans (hb2.mono HB1.out.size))
 have HN2 := hid ((hb2.block _ (Array.getElem?_eq_some_iff.1 HN1.out).1).trans HN1.out)
 have c0 : w2.cell? ⟨w.heap.size, 0, none⟩ = some (tv) := Lib.cell_of_heap HN2.out 0
 have c1 : w2.cell? ⟨w.heap.size, 1, none⟩ = some (ov) := Lib.cell_of_heap HN2.out 1
 have c2 : w2.cell? ⟨w.heap.size, 2, none⟩ = some (sv) := Lib.cell_of_heap HN2.out 2
 have c3 : w2.cell? ⟨w.heap.size, 3, none⟩ = some (pv) := Lib.cell_of_heap HN2.out 3
 have c4 : w2.cell? ⟨w.heap.size, 4, none⟩ = some (.int .i64 G.start) := Lib.cell_of_heap HN2.out 4
 have KF := hid (Little_any (HGr.out.below HB2.out))
 clear hb2 KW e1
 go_wp2_with fail
 refine KF.out.mono ?_
 rintro e w3 ⟨fw, rfl, hb3⟩
 have HB3 := hid (HB2.out.trans (hb3.mono HB2.out.size))
 have HN3 := hid ((hb3.block _ (Array.getElem?_eq_some_iff.1 HN2.out).1).trans HN2.out)
 clear hb3 KF c0 c1 c2 c3 c4
 cases fw
 ·go_wp2_with fail
  go_ret
  exact ⟨rfl, HB3.out⟩
 have c0 : w3.cell? ⟨w.heap.size, 0, none⟩ = some (tv) := Lib.cell_of_heap HN3.out 0
 have c1 : w3.cell? ⟨w.heap.size, 1, none⟩ = some (ov) := Lib.cell_of_heap HN3.out 1
 have c2 : w3.cell? ⟨w.heap.size, 2, none⟩ = some (sv) := Lib.cell_of_heap HN3.out 2
 have c3 : w3.cell? ⟨w.heap.size, 3, none⟩ = some (pv) := Lib.cell_of_heap HN3.out 3
 have c4 : w3.cell? ⟨w.heap.size, 4, none⟩ = some (.int .i64 G.start) := Lib.cell_of_heap HN3.out 4
 have KB := hid (BuildT_any (HGr.out.below HB3.out) (HT.out.on (HB3.out.mono hBt)) (Nat.le_trans hBt HB3.out.size))
 go_wp2_with fail
 refine KB.out.mono ?_
 rintro e w4 ⟨hb4, hcase⟩
 have HB4 := hid (HB3.out.trans (hb4.mono HB3.out.size))
 have HN4 := hid ((hb4.block _ (Array.getElem?_eq_some_iff.1 HN3.out).1).trans HN3.out)
 clear KB c0 c1 c2 c3 c4 hb4
 rcases hcase with ⟨hV, rfl⟩ | ⟨hV, n, ⟨hM, rfl⟩ | ⟨hO, A, hL, ⟨hC, rfl⟩ | ⟨hno, tab, rfl, htab⟩⟩⟩
 ·have HV := hid hV
  clear hV
  unfold zeroTab
  obtain ⟨Wz, ez⟩ : ∃ z, w4.alloc (.cells #[.slice none 0 0, .slice none 0 0, .slice none 0 0] 96) = z := ⟨_, rfl⟩
  have nez : Wz.heap[w4.heap.size]? = some (.cells #[.slice none 0 0, .slice none 0 0, .slice none 0 0] 96 (0, 0)) := by rw [← ez]; exact new_block _ _
  have xn0 : Wz.heap[w4.heap.size]? = some (.cells #[.slice none 0 0, .slice none 0 0, .slice none 0 0] 96 (0, 0)) := nez
  have xc0 : Wz.cell? ⟨w4.heap.size, 0, none⟩ = some (.slice none 0 0) := Lib.cell_of_heap xn0 0
  have xf0 := Lib.frozen_of_heap xn0 0
  obtain ⟨z1, xe0⟩ : ∃ z, Wz.setCell ⟨w4.heap.size, 0, none⟩ (.slice none 0 0) = z := ⟨_, rfl⟩
  have xn1 : z1.heap[w4.heap.size]? = some (.cells #[.slice none 0 0, .slice none 0 0, .slice none 0 0] 96 (0, 0)) := by rw [← xe0]; exact heap_setCell_same _ _ 0 _ 96 _ xn0
  have xc1 : z1.cell? ⟨w4.heap.size, 1, none⟩ = some (.slice none 0 0) := Lib.cell_of_heap xn1 1
  have xf1 := Lib.frozen_of_heap xn1 1
  obtain ⟨z2, xe1⟩ : ∃ z, z1.setCell ⟨w4.heap.size, 1, none⟩ (.slice none 0 0) = z := ⟨_, rfl⟩
  have xn2 : z2.heap[w4.heap.size]? = some (.cells #[.slice none 0 0, .slice none 0 0, .slice none 0 0] 96 (0, 0)) := by rw [← xe1]; exact heap_setCell_same _ _ 1 _ 96 _ xn1
  have xc2 : z2.cell? ⟨w4.heap.size, 2, none⟩ = some (.slice none 0 0) := Lib.cell_of_heap xn2 2
  have xf2 := Lib.frozen_of_heap xn2 2
  obtain ⟨w5, xe2⟩ : ∃ z, z2.setCell ⟨w4.heap.size, 2, none⟩ (.slice none 0 0) = z := ⟨_, rfl⟩
  have xn3 : w5.heap[w4.heap.size]? = some (.cells #[.slice none 0 0, .slice none 0 0, .slice none 0 0] 96 (0, 0)) := by rw [← xe2]; exact heap_setCell_same _ _ 2 _ 96 _ xn2
  have HBBx := hid (show Below w4.heap.size w4 w5 from by
   rw [← xe2, ← xe1, ← xe0, ← ez]
   exact ((((Below.refl _ _).alloc (Nat.le_refl _) _).setCell (Nat.le_refl _) _).setCell (Nat.le_refl _) _).setCell (Nat.le_refl _) _)
  have HNBx := hid xn3
  clear nez xn0 xn1 xn2 xn3
  have HB5 := hid (HB4.out.trans (HBBx.out.mono HB4.out.size))
  have HN5 := hid ((HBBx.out.block _ (Array.getElem?_eq_some_iff.1 HN4.out).1).trans HN4.out)
  have HBX := hid (show ∀ w', Below w5.heap.size w5 w' → w'.cell? ⟨w4.heap.size, 0, none⟩ = some (.slice none 0 0) ∧ w'.cell? ⟨w4.heap.size, 1, none⟩ = some (.slice none 0 0) ∧ w'.cell? ⟨w4.heap.size, 2, none⟩ = some (.slice none 0 0) from fun w' hC => ⟨cell_below hC (Lib.cell_of_heap HNBx.out 0), cell_below hC (Lib.cell_of_heap HNBx.out 1), cell_below hC (Lib.cell_of_heap HNBx.out 2)⟩)
  have c0 : w5.cell? ⟨w.heap.size, 0, none⟩ = some (tv) := Lib.cell_of_heap HN5.out 0
  have c1 : w5.cell? ⟨w.heap.size, 1, none⟩ = some (ov) := Lib.cell_of_heap HN5.out 1
  have c2 : w5.cell? ⟨w.heap.size, 2, none⟩ = some (sv) := Lib.cell_of_heap HN5.out 2
  have c3 : w5.cell? ⟨w.heap.size, 3, none⟩ = some (pv) := Lib.cell_of_heap HN5.out 3
  have c4 : w5.cell? ⟨w.heap.size, 4, none⟩ = some (.int .i64 G.start) := Lib.cell_of_heap HN5.out 4
  have KC := hid (AllT_any (HGr.out.below HB5.out) (HT.out.on (HB5.out.mono hBt)) (Nat.le_trans hBt HB5.out.size))
  go_wp2_with fail
  refine KC.out.mono ?_
  rintro e w6 hcp
  obtain ⟨hb6, rfl⟩ := all_inv hcp HV.out
  have HB6 := hid (HB5.out.trans (hb6.mono HB5.out.size))
  have HN6 := hid ((hb6.block _ (Array.getElem?_eq_some_iff.1 HN5.out).1).trans HN5.out)
  have HX6 := hid (hb6)
  clear c0 c1 c2 c3 c4 KC hcp hb6
  clear xc0 xf0 xc1 xf1 xc2 xf2 xe0 xe1 xe2 ez
  have c0 : w6.cell? ⟨w.heap.size, 0, none⟩ = some (tv) := Lib.cell_of_heap HN6.out 0
  have c1 : w6.cell? ⟨w.heap.size, 1, none⟩ = some (ov) := Lib.cell_of_heap HN6.out 1
  have c2 : w6.cell? ⟨w.heap.size, 2, none⟩ = some (sv) := Lib.cell_of_heap HN6.out 2
  have c3 : w6.cell? ⟨w.heap.size, 3, none⟩ = some (pv) := Lib.cell_of_heap HN6.out 3
  have c4 : w6.cell? ⟨w.heap.size, 4, none⟩ = some (.int .i64 G.start) := Lib.cell_of_heap HN6.out 4
  have KC := hid (Clashes_any (HGr.out.below HB6.out) (HT.out.on (HB6.out.mono hBt)) (Nat.le_trans hBt HB6.out.size))
  go_wp2_with fail
  refine KC.out.mono ?_
  rintro e w7 hcp
  obtain ⟨hb7, cv, rfl⟩ := clash_ret hcp
  have HB7 := hid (HB6.out.trans (hb7.mono HB6.out.size))
  have HN7 := hid ((hb7.block _ (Array.getElem?_eq_some_iff.1 HN6.out).1).trans HN6.out)
  have HX7 := hid (HX6.out.trans (hb7.mono HX6.out.size))
  clear c0 c1 c2 c3 c4 KC hcp hb7
  obtain ⟨q0, q1, q2⟩ := HBX.out w7 HX7.out
  go_wp2_with fail
  go_ret
  exact ⟨rfl, HB7.out⟩
 ·have HV := hid (And.intro hV hM)
  clear hV hM
  unfold zeroTab
  obtain ⟨Wz, ez⟩ : ∃ z, w4.alloc (.cells #[.slice none 0 0, .slice none 0 0, .slice none 0 0] 96) = z := ⟨_, rfl⟩
  have nez : Wz.heap[w4.heap.size]? = some (.cells #[.slice none 0 0, .slice none 0 0, .slice none 0 0] 96 (0, 0)) := by rw [← ez]; exact new_block _ _
  have xn0 : Wz.heap[w4.heap.size]? = some (.cells #[.slice none 0 0, .slice none 0 0, .slice none 0 0] 96 (0, 0)) := nez
  have xc0 : Wz.cell? ⟨w4.heap.size, 0, none⟩ = some (.slice none 0 0) := Lib.cell_of_heap xn0 0
  have xf0 := Lib.frozen_of_heap xn0 0
  obtain ⟨z1, xe0⟩ : ∃ z, Wz.setCell ⟨w4.heap.size, 0, none⟩ (.slice none 0 0) = z := ⟨_, rfl⟩
  have xn1 : z1.heap[w4.heap.size]? = some (.cells #[.slice none 0 0, .slice none 0 0, .slice none 0 0] 96 (0, 0)) := by rw [← xe0]; exact heap_setCell_same _ _ 0 _ 96 _ xn0
  have xc1 : z1.cell? ⟨w4.heap.size, 1, none⟩ = some (.slice none 0 0) := Lib.cell_of_heap xn1 1
  have xf1 := Lib.frozen_of_heap xn1 1
  obtain ⟨z2, xe1⟩ : ∃ z, z1.setCell ⟨w4.heap.size, 1, none⟩ (.slice none 0 0) = z := ⟨_, rfl⟩
  have xn2 : z2.heap[w4.heap.size]? = some (.cells #[.slice none 0 0, .slice none 0 0, .slice none 0 0] 96 (0, 0)) := by rw [← xe1]; exact heap_setCell_same _ _ 1 _ 96 _ xn1
  have xc2 : z2.cell? ⟨w4.heap.size, 2, none⟩ = some (.slice none 0 0) := Lib.cell_of_heap xn2 2
  have xf2 := Lib.frozen_of_heap xn2 2
  obtain ⟨w5, xe2⟩ : ∃ z, z2.setCell ⟨w4.heap.size, 2, none⟩ (.slice none 0 0) = z := ⟨_, rfl⟩
  have xn3 : w5.heap[w4.heap.size]? = some (.cells #[.slice none 0 0, .slice none 0 0, .slice none 0 0] 96 (0, 0)) := by rw [← xe2]; exact heap_setCell_same _ _ 2 _ 96 _ xn2
  have HBBx := hid (show Below w4.heap.size w4 w5 from by
   rw [← xe2, ← xe1, ← xe0, ← ez]
   exact ((((Below.refl _ _).alloc (Nat.le_refl _) _).setCell (Nat.le_refl _) _).setCell (Nat.le_refl _) _).setCell (Nat.le_refl _) _)
  have HNBx := hid xn3
  clear nez xn0 xn1 xn2 xn3
  have HB5 := hid (HB4.out.trans (HBBx.out.mono HB4.out.size))
  have HN5 := hid ((HBBx.out.block _ (Array.getElem?_eq_some_iff.1 HN4.out).1).trans HN4.out)
  have HBX := hid (show ∀ w', Below w5.heap.size w5 w' → w'.cell? ⟨w4.heap.size, 0, none⟩ = some (.slice none 0 0) ∧ w'.cell? ⟨w4.heap.size, 1, none⟩ = some (.slice none 0 0) ∧ w'.cell? ⟨w4.heap.size, 2, none⟩ = some (.slice none 0 0) from fun w' hC => ⟨cell_below hC (Lib.cell_of_heap HNBx.out 0), cell_below hC (Lib.cell_of_heap HNBx.out 1), cell_below hC (Lib.cell_of_heap HNBx.out 2)⟩)
  have c0 : w5.cell? ⟨w.heap.size, 0, none⟩ = some (tv) := Lib.cell_of_heap HN5.out 0
  have c1 : w5.cell? ⟨w.heap.size, 1, none⟩ = some (ov) := Lib.cell_of_heap HN5.out 1
  have c2 : w5.cell? ⟨w.heap.size, 2, none⟩ = some (sv) := Lib.cell_of_heap HN5.out 2
  have c3 : w5.cell? ⟨w.heap.size, 3, none⟩ = some (pv) := Lib.cell_of_heap HN5.out 3
  have c4 : w5.cell? ⟨w.heap.size, 4, none⟩ = some (.int .i64 G.start) := Lib.cell_of_heap HN5.out 4
  have KC := hid (AllT_any (HGr.out.below HB5.out) (HT.out.on (HB5.out.mono hBt)) (Nat.le_trans hBt HB5.out.size))
  go_wp2_with fail
  refine KC.out.mono ?_
  rintro e w6 hcp
  obtain ⟨hb6, rfl⟩ := all_many hcp HV.out.1 HV.out.2
  have HB6 := hid (HB5.out.trans (hb6.mono HB5.out.size))
  have HN6 := hid ((hb6.block _ (Array.getElem?_eq_some_iff.1 HN5.out).1).trans HN5.out)
  have HX6 := hid (hb6)
  clear c0 c1 c2 c3 c4 KC hcp hb6
  clear xc0 xf0 xc1 xf1 xc2 xf2 xe0 xe1 xe2 ez
  have c0 : w6.cell? ⟨w.heap.size, 0, none⟩ = some (tv) := Lib.cell_of_heap HN6.out 0
  have c1 : w6.cell? ⟨w.heap.size, 1, none⟩ = some (ov) := Lib.cell_of_heap HN6.out 1
  have c2 : w6.cell? ⟨w.heap.size, 2, none⟩ = some (sv) := Lib.cell_of_heap HN6.out 2
  have c3 : w6.cell? ⟨w.heap.size, 3, none⟩ = some (pv) := Lib.cell_of_heap HN6.out 3
  have c4 : w6.cell? ⟨w.heap.size, 4, none⟩ = some (.int .i64 G.start) := Lib.cell_of_heap HN6.out 4
  have KC := hid (Clashes_any (HGr.out.below HB6.out) (HT.out.on (HB6.out.mono hBt)) (Nat.le_trans hBt HB6.out.size))
  go_wp2_with fail
  refine KC.out.mono ?_
  rintro e w7 hcp
  obtain ⟨hb7, cv, rfl⟩ := clash_ret hcp
  have HB7 := hid (HB6.out.trans (hb7.mono HB6.out.size))
  have HN7 := hid ((hb7.block _ (Array.getElem?_eq_some_iff.1 HN6.out).1).trans HN6.out)
  have HX7 := hid (HX6.out.trans (hb7.mono HX6.out.size))
  clear c0 c1 c2 c3 c4 KC hcp hb7
  obtain ⟨q0, q1, q2⟩ := HBX.out w7 HX7.out
  go_wp2_with fail
  go_ret
  exact ⟨rfl, HB7.out⟩
 ·have HV := hid (show validB G = true ∧ BuiltOk G n ∧ LA G n A from ⟨hV, hO, hL⟩)
  have hpos := List.length_pos_iff.2 hC
  obtain ⟨cn, hcn⟩ : ∃ cn, (clX (cntS (dS G n A)) (G.terms.length + 1) n).length = cn := ⟨_, rfl⟩
  have hpos : 0 < cn := by rw [← hcn]; exact hpos
  have HCN := hid hcn
  clear hV hO hL hC hcn
  unfold zeroTab
  obtain ⟨Wz, ez⟩ : ∃ z, w4.alloc (.cells #[.slice none 0 0, .slice none 0 0, .slice none 0 0] 96) = z := ⟨_, rfl⟩
  have nez : Wz.heap[w4.heap.size]? = some (.cells #[.slice none 0 0, .slice none 0 0, .slice none 0 0] 96 (0, 0)) := by rw [← ez]; exact new_block _ _
  have xn0 : Wz.heap[w4.heap.size]? = some (.cells #[.slice none 0 0, .slice none 0 0, .slice none 0 0] 96 (0, 0)) := nez
  have xc0 : Wz.cell? ⟨w4.heap.size, 0, none⟩ = some (.slice none 0 0) := Lib.cell_of_heap xn0 0
  have xf0 := Lib.frozen_of_heap xn0 0
  obtain ⟨z1, xe0⟩ : ∃ z, Wz.setCell ⟨w4.heap.size, 0, none⟩ (.slice none 0 0) = z := ⟨_, rfl⟩
  have xn1 : z1.heap[w4.heap.size]? = some (.cells #[.slice none 0 0, .slice none 0 0, .slice none 0 0] 96 (0, 0)) := by rw [← xe0]; exact heap_setCell_same _ _ 0 _ 96 _ xn0
  have xc1 : z1.cell? ⟨w4.heap.size, 1, none⟩ = some (.slice none 0 0) := Lib.cell_of_heap xn1 1
  have xf1 := Lib.frozen_of_heap xn1 1
  obtain ⟨z2, xe1⟩ : ∃ z, z1.setCell ⟨w4.heap.size, 1, none⟩ (.slice none 0 0) = z := ⟨_, rfl⟩
  have xn2 : z2.heap[w4.heap.size]? = some (.cells #[.slice none 0 0, .slice none 0 0, .slice none 0 0] 96 (0, 0)) := by rw [← xe1]; exact heap_setCell_same _ _ 1 _ 96 _ xn1
  have xc2 : z2.cell? ⟨w4.heap.size, 2, none⟩ = some (.slice none 0 0) := Lib.cell_of_heap xn2 2
  have xf2 := Lib.frozen_of_heap xn2 2
  obtain ⟨w5, xe2⟩ : ∃ z, z2.setCell ⟨w4.heap.size, 2, none⟩ (.slice none 0 0) = z := ⟨_, rfl⟩
  have xn3 : w5.heap[w4.heap.size]? = some (.cells #[.slice none 0 0, .slice none 0 0, .slice none 0 0] 96 (0, 0)) := by rw [← xe2]; exact heap_setCell_same _ _ 2 _ 96 _ xn2
  have HBBx := hid (show Below w4.heap.size w4 w5 from by
   rw [← xe2, ← xe1, ← xe0, ← ez]
   exact ((((Below.refl _ _).alloc (Nat.le_refl _) _).setCell (Nat.le_refl _) _).setCell (Nat.le_refl _) _).setCell (Nat.le_refl _) _)
  have HNBx := hid xn3
  clear nez xn0 xn1 xn2 xn3
  have HB5 := hid (HB4.out.trans (HBBx.out.mono HB4.out.size))
  have HN5 := hid ((HBBx.out.block _ (Array.getElem?_eq_some_iff.1 HN4.out).1).trans HN4.out)
  have HBX := hid (show ∀ w', Below w5.heap.size w5 w' → w'.cell? ⟨w4.heap.size, 0, none⟩ = some (.slice none 0 0) ∧ w'.cell? ⟨w4.heap.size, 1, none⟩ = some (.slice none 0 0) ∧ w'.cell? ⟨w4.heap.size, 2, none⟩ = some (.slice none 0 0) from fun w' hC => ⟨cell_below hC (Lib.cell_of_heap HNBx.out 0), cell_below hC (Lib.cell_of_heap HNBx.out 1), cell_below hC (Lib.cell_of_heap HNBx.out 2)⟩)
  have c0 : w5.cell? ⟨w.heap.size, 0, none⟩ = some (tv) := Lib.cell_of_heap HN5.out 0
  have c1 : w5.cell? ⟨w.heap.size, 1, none⟩ = some (ov) := Lib.cell_of_heap HN5.out 1
  have c2 : w5.cell? ⟨w.heap.size, 2, none⟩ = some (sv) := Lib.cell_of_heap HN5.out 2
  have c3 : w5.cell? ⟨w.heap.size, 3, none⟩ = some (pv) := Lib.cell_of_heap HN5.out 3
  have c4 : w5.cell? ⟨w.heap.size, 4, none⟩ = some (.int .i64 G.start) := Lib.cell_of_heap HN5.out 4
  have KC := hid (AllT_any (HGr.out.below HB5.out) (HT.out.on (HB5.out.mono hBt)) (Nat.le_trans hBt HB5.out.size))
  go_wp2_with fail
  refine KC.out.mono ?_
  rintro e w6 hcp
  obtain ⟨hb6, vo, vc, rfl, hK⟩ := all_ok hcp HV.out.1 HV.out.2.1 HV.out.2.2
  have HB6 := hid (HB5.out.trans (hb6.mono HB5.out.size))
  have HN6 := hid ((hb6.block _ (Array.getElem?_eq_some_iff.1 HN5.out).1).trans HN5.out)
  have HX6 := hid (hb6)
  clear c0 c1 c2 c3 c4 KC hcp hb6
  clear xc0 xf0 xc1 xf1 xc2 xf2 xe0 xe1 xe2 ez
  clear hK
  have c0 : w6.cell? ⟨w.heap.size, 0, none⟩ = some (tv) := Lib.cell_of_heap HN6.out 0
  have c1 : w6.cell? ⟨w.heap.size, 1, none⟩ = some (ov) := Lib.cell_of_heap HN6.out 1
  have c2 : w6.cell? ⟨w.heap.size, 2, none⟩ = some (sv) := Lib.cell_of_heap HN6.out 2
  have c3 : w6.cell? ⟨w.heap.size, 3, none⟩ = some (pv) := Lib.cell_of_heap HN6.out 3
  have c4 : w6.cell? ⟨w.heap.size, 4, none⟩ = some (.int .i64 G.start) := Lib.cell_of_heap HN6.out 4
  have KC := hid (Clashes_any (HGr.out.below HB6.out) (HT.out.on (HB6.out.mono hBt)) (Nat.le_trans hBt HB6.out.size))
  go_wp2_with fail
  refine KC.out.mono ?_
  rintro e w7 hcp
  obtain ⟨hb7, co, cc, rfl⟩ := clash_ok hcp HV.out.1 HV.out.2.1 HV.out.2.2
  have HB7 := hid (HB6.out.trans (hb7.mono HB6.out.size))
  have HN7 := hid ((hb7.block _ (Array.getElem?_eq_some_iff.1 HN6.out).1).trans HN6.out)
  have HX7 := hid (HX6.out.trans (hb7.mono HX6.out.size))
  clear c0 c1 c2 c3 c4 KC hcp hb7
  rw [HCN.out]
  have k0 : (0 : Int) < (cn : Int) := by omega
  have k1 : decide ((0 : Int) < (cn : Int)) = true := decide_eq_true k0
  have k2 : decide (0 < cn) = true := decide_eq_true hpos
  obtain ⟨q0, q1, q2⟩ := HBX.out w7 HX7.out
  go_wp2_with fail
  go_ret
  exact ⟨rfl, HB7.out⟩
 obtain ⟨T, hT⟩ : ∃ T, G.terms.length = T := ⟨_, rfl⟩
 obtain ⟨M, hM⟩ : ∃ M, T + 1 = M := ⟨_, rfl⟩
 obtain ⟨S, hS⟩ : ∃ S, G.sorts.length = S := ⟨_, rfl⟩
 have HTL := hid (And.intro hT (And.intro hM hS))
 have htab : TabAt w4 tab n (G.terms.length + 1) (dS G n A) (fun i => nextX G (iterB G n).nx i G.sorts.length) := htab
 obtain ⟨dvo, dvc, nvo, nvc, mvo, mvc, hx⟩ : ∃ dvo dvc nvo nvc mvo mvc, tab = .agg #[.slice dvo n dvc, .slice nvo n nvc, .slice mvo n mvc] ∧
  RowsAt w4 (.slice dvo n dvc) n (fun i u => ItemsAt w4 u (onlyX (dS G n A i) M M)) ∧ RowsAt w4 (.slice nvo n nvc) n (fun i u => IntsAt w4 u (nextX G (iterB G n).nx i S)) ∧ U64s w4 (.slice mvo n mvc) ((List.range n).map fun i => mayX (dS G n A i) M M) := by
  obtain ⟨dv, nv, mv, rfl, _⟩ := id htab
  obtain ⟨a, b, c, d, e, f, rfl, rfl, rfl, h1, h2, h3⟩ := tab_parts htab
  rw [← hM, ← hT, ← hS]
  exact ⟨a, b, c, d, e, f, rfl, h1, h2, h3⟩
 obtain ⟨rfl, hx⟩ := hx
 have HTP := hid hx
 have HV := hid (show validB G = true ∧ BuiltOk G n ∧ LA G n A from ⟨hV, hO, hL⟩)
 have HNO := hid hno
 have HBD := hid (show n ≤ 2000 ∧ T ≤ 60 ∧ S ≤ 60 from ⟨built2 hO, by have := (S13.valid_few hV).1; omega, by have := (S13.valid_few hV).2.1; omega⟩)
 clear hV hO hL hno htab hx hT hM hS
 obtain ⟨Wz, ez⟩ : ∃ z, w4.alloc (.cells #[.slice none 0 0, .slice none 0 0, .slice none 0 0] 96) = z := ⟨_, rfl⟩
 have nez : Wz.heap[w4.heap.size]? = some (.cells #[.slice none 0 0, .slice none 0 0, .slice none 0 0] 96 (0, 0)) := by rw [← ez]; exact new_block _ _
 have xn0 : Wz.heap[w4.heap.size]? = some (.cells #[.slice none 0 0, .slice none 0 0, .slice none 0 0] 96 (0, 0)) := nez
 have xc0 : Wz.cell? ⟨w4.heap.size, 0, none⟩ = some (.slice none 0 0) := Lib.cell_of_heap xn0 0
 have xf0 := Lib.frozen_of_heap xn0 0
 obtain ⟨z1, xe0⟩ : ∃ z, Wz.setCell ⟨w4.heap.size, 0, none⟩ (.slice dvo n dvc) = z := ⟨_, rfl⟩
 have xn1 : z1.heap[w4.heap.size]? = some (.cells #[.slice dvo n dvc, .slice none 0 0, .slice none 0 0] 96 (0, 0)) := by rw [← xe0]; exact heap_setCell_same _ _ 0 _ 96 _ xn0
 have xc1 : z1.cell? ⟨w4.heap.size, 1, none⟩ = some (.slice none 0 0) := Lib.cell_of_heap xn1 1
 have xf1 := Lib.frozen_of_heap xn1 1
 obtain ⟨z2, xe1⟩ : ∃ z, z1.setCell ⟨w4.heap.size, 1, none⟩ (.slice nvo n nvc) = z := ⟨_, rfl⟩
 have xn2 : z2.heap[w4.heap.size]? = some (.cells #[.slice dvo n dvc, .slice nvo n nvc, .slice none 0 0] 96 (0, 0)) := by rw [← xe1]; exact heap_setCell_same _ _ 1 _ 96 _ xn1
 have xc2 : z2.cell? ⟨w4.heap.size, 2, none⟩ = some (.slice none 0 0) := Lib.cell_of_heap xn2 2
 have xf2 := Lib.frozen_of_heap xn2 2
 obtain ⟨w5, xe2⟩ : ∃ z, z2.setCell ⟨w4.heap.size, 2, none⟩ (.slice mvo n mvc) = z := ⟨_, rfl⟩
 have xn3 : w5.heap[w4.heap.size]? = some (.cells #[.slice dvo n dvc, .slice nvo n nvc, .slice mvo n mvc] 96 (0, 0)) := by rw [← xe2]; exact heap_setCell_same _ _ 2 _ 96 _ xn2
 have HBBx := hid (show Below w4.heap.size w4 w5 from by
  rw [← xe2, ← xe1, ← xe0, ← ez]
  exact ((((Below.refl _ _).alloc (Nat.le_refl _) _).setCell (Nat.le_refl _) _).setCell (Nat.le_refl _) _).setCell (Nat.le_refl _) _)
 have HNBx := hid xn3
 clear nez xn0 xn1 xn2 xn3
 have HB5 := hid (HB4.out.trans (HBBx.out.mono HB4.out.size))
 have HN5 := hid ((HBBx.out.block _ (Array.getElem?_eq_some_iff.1 HN4.out).1).trans HN4.out)
 have HBX := hid (show ∀ w', Below w5.heap.size w5 w' → w'.cell? ⟨w4.heap.size, 0, none⟩ = some (.slice dvo n dvc) ∧ w'.cell? ⟨w4.heap.size, 1, none⟩ = some (.slice nvo n nvc) ∧ w'.cell? ⟨w4.heap.size, 2, none⟩ = some (.slice mvo n mvc) from fun w' hC => ⟨cell_below hC (Lib.cell_of_heap HNBx.out 0), cell_below hC (Lib.cell_of_heap HNBx.out 1), cell_below hC (Lib.cell_of_heap HNBx.out 2)⟩)
 have c0 : w5.cell? ⟨w.heap.size, 0, none⟩ = some (tv) := Lib.cell_of_heap HN5.out 0
 have c1 : w5.cell? ⟨w.heap.size, 1, none⟩ = some (ov) := Lib.cell_of_heap HN5.out 1
 have c2 : w5.cell? ⟨w.heap.size, 2, none⟩ = some (sv) := Lib.cell_of_heap HN5.out 2
 have c3 : w5.cell? ⟨w.heap.size, 3, none⟩ = some (pv) := Lib.cell_of_heap HN5.out 3
 have c4 : w5.cell? ⟨w.heap.size, 4, none⟩ = some (.int .i64 G.start) := Lib.cell_of_heap HN5.out 4
 have KC := hid (AllT_any (HGr.out.below HB5.out) (HT.out.on (HB5.out.mono hBt)) (Nat.le_trans hBt HB5.out.size))
 go_wp2_with fail
 refine KC.out.mono ?_
 rintro e w6 hcp
 obtain ⟨hb6, vo, vc, rfl, hK⟩ := all_ok hcp HV.out.1 HV.out.2.1 HV.out.2.2
 have HK6 := hid hK
 clear hK
 have HB6 := hid (HB5.out.trans (hb6.mono HB5.out.size))
 have HN6 := hid ((hb6.block _ (Array.getElem?_eq_some_iff.1 HN5.out).1).trans HN5.out)
 have HX6 := hid (hb6)
 clear c0 c1 c2 c3 c4 KC hcp hb6
 clear xc0 xf0 xc1 xf1 xc2 xf2 xe0 xe1 xe2 ez
 have c0 : w6.cell? ⟨w.heap.size, 0, none⟩ = some (tv) := Lib.cell_of_heap HN6.out 0
 have c1 : w6.cell? ⟨w.heap.size, 1, none⟩ = some (ov) := Lib.cell_of_heap HN6.out 1
 have c2 : w6.cell? ⟨w.heap.size, 2, none⟩ = some (sv) := Lib.cell_of_heap HN6.out 2
 have c3 : w6.cell? ⟨w.heap.size, 3, none⟩ = some (pv) := Lib.cell_of_heap HN6.out 3
 have c4 : w6.cell? ⟨w.heap.size, 4, none⟩ = some (.int .i64 G.start) := Lib.cell_of_heap HN6.out 4
 have KC := hid (Clashes_any (HGr.out.below HB6.out) (HT.out.on (HB6.out.mono hBt)) (Nat.le_trans hBt HB6.out.size))
 go_wp2_with fail
 refine KC.out.mono ?_
 rintro e w7 hcp
 obtain ⟨hb7, co, cc, rfl⟩ := clash_ok hcp HV.out.1 HV.out.2.1 HV.out.2.2
 have HK7 := hid (states_below HK6.out hb7)
 have HB7 := hid (HB6.out.trans (hb7.mono HB6.out.size))
 have HN7 := hid ((hb7.block _ (Array.getElem?_eq_some_iff.1 HN6.out).1).trans HN6.out)
 have HX7 := hid (HX6.out.trans (hb7.mono HX6.out.size))
 clear c0 c1 c2 c3 c4 KC hcp hb7
 have hc0 : clX (cntS (dS G n A)) (G.terms.length + 1) n = [] := HNO.out
 rw [hc0, List.length_nil]
 clear hc0
 have c0 : w7.cell? ⟨w.heap.size, 0, none⟩ = some (tv) := Lib.cell_of_heap HN7.out 0
 have c1 : w7.cell? ⟨w.heap.size, 1, none⟩ = some (ov) := Lib.cell_of_heap HN7.out 1
 have c2 : w7.cell? ⟨w.heap.size, 2, none⟩ = some (sv) := Lib.cell_of_heap HN7.out 2
 have c3 : w7.cell? ⟨w.heap.size, 3, none⟩ = some (pv) := Lib.cell_of_heap HN7.out 3
 have c4 : w7.cell? ⟨w.heap.size, 4, none⟩ = some (.int .i64 G.start) := Lib.cell_of_heap HN7.out 4
 have KC := hid (Build_any (HGr.out.below HB7.out) (HT.out.on (HB7.out.mono hBt)) (Nat.le_trans hBt HB7.out.size))
 go_wp2_with fail
 refine KC.out.mono ?_
 rintro e w8 hcp
 obtain ⟨hb8, ko, kl, kc, no, nl, nc, rfl, hau⟩ := aut_ok hcp HV.out.1 HV.out.2.1
 have HK8 := hid (states_below HK7.out hb8)
 have HB8 := hid (HB7.out.trans (hb8.mono HB7.out.size))
 have HN8 := hid ((hb8.block _ (Array.getElem?_eq_some_iff.1 HN7.out).1).trans HN7.out)
 have HX8 := hid (HX7.out.trans (hb8.mono HX7.out.size))
 have HAU := hid hau
 clear c0 c1 c2 c3 c4 KC hcp hb8 hau
 obtain ⟨Wy, ey⟩ : ∃ z, w8.alloc (.cells #[.slice none 0 0, .slice none 0 0] 55) = z := ⟨_, rfl⟩
 have ny : Wy.heap[w8.heap.size]? = some (.cells #[.slice none 0 0, .slice none 0 0] 55 (0, 0)) := by rw [← ey]; exact new_block _ _
 have yn0 : Wy.heap[w8.heap.size]? = some (.cells #[.slice none 0 0, .slice none 0 0] 55 (0, 0)) := ny
 have yc0 : Wy.cell? ⟨w8.heap.size, 0, none⟩ = some (.slice none 0 0) := Lib.cell_of_heap yn0 0
 have yf0 := Lib.frozen_of_heap yn0 0
 obtain ⟨y1, ye0⟩ : ∃ z, Wy.setCell ⟨w8.heap.size, 0, none⟩ (.slice ko kl kc) = z := ⟨_, rfl⟩
 have yn1 : y1.heap[w8.heap.size]? = some (.cells #[.slice ko kl kc, .slice none 0 0] 55 (0, 0)) := by rw [← ye0]; exact heap_setCell_same _ _ 0 _ 55 _ yn0
 have yc1 : y1.cell? ⟨w8.heap.size, 1, none⟩ = some (.slice none 0 0) := Lib.cell_of_heap yn1 1
 have yf1 := Lib.frozen_of_heap yn1 1
 obtain ⟨w9, ye1⟩ : ∃ z, y1.setCell ⟨w8.heap.size, 1, none⟩ (.slice no nl nc) = z := ⟨_, rfl⟩
 have yn2 : w9.heap[w8.heap.size]? = some (.cells #[.slice ko kl kc, .slice no nl nc] 55 (0, 0)) := by rw [← ye1]; exact heap_setCell_same _ _ 1 _ 55 _ yn1
 have hb9 : Below w8.heap.size w8 w9 := by
  rw [← ye1, ← ye0, ← ey]
  exact (((Below.refl _ _).alloc (Nat.le_refl _) _).setCell (Nat.le_refl _) _).setCell (Nat.le_refl _) _
 have HB9 := hid (HB8.out.trans (hb9.mono HB8.out.size))
 have HN9 := hid ((hb9.block _ (Array.getElem?_eq_some_iff.1 HN8.out).1).trans HN8.out)
 have HX9 := hid (HX8.out.trans (hb9.mono HX8.out.size))
 have HAB := hid (show ∀ w', Below w9.heap.size w9 w' → w'.cell? ⟨w8.heap.size, 0, none⟩ = some (.slice ko kl kc) ∧ w'.cell? ⟨w8.heap.size, 1, none⟩ = some (.slice no nl nc) from fun w' hC => ⟨cell_below hC (Lib.cell_of_heap yn2 0), cell_below hC (Lib.cell_of_heap yn2 1)⟩)
 have HAU9 := hid (HAU.out.below hb9)
 have HK9 := hid (states_below HK8.out hb9)
 have HY9 := hid (HBBx.out.trans (HX9.out.mono HBBx.out.size))
 obtain ⟨q0, q1, q2⟩ := HBX.out w9 HX9.out
 clear ny yn0 yn1 yn2 hb9
 go_wp2_with fail
 clear q0 q1 q2 ey yc0 yf0 ye0 yc1 yf1 ye1
 obtain ⟨to_, tc, rfl, htn, _⟩ := HGA.out.terms
 obtain ⟨so, sc, rfl, hsn, _⟩ := HGA.out.sorts
 rw [HTL.out.1, HTL.out.2.2] at HGr HN9 ⊢
 have HS0 := hid (show 0 < S from by have := valid_start HV.out.1; have h3 := HTL.out.2.2; omega)
 clear htn hsn
 have G0 := hid (show ∀ w', Below w9.heap.size w9 w' → w'.cell? ⟨w.heap.size, 0, none⟩ = some (.slice to_ T tc) from fun w' hC => cell_below hC (Lib.cell_of_heap HN9.out 0))
 have G1 := hid (show ∀ w', Below w9.heap.size w9 w' → w'.cell? ⟨w.heap.size, 1, none⟩ = some (ov) from fun w' hC => cell_below hC (Lib.cell_of_heap HN9.out 1))
 have G2 := hid (show ∀ w', Below w9.heap.size w9 w' → w'.cell? ⟨w.heap.size, 2, none⟩ = some (.slice so S sc) from fun w' hC => cell_below hC (Lib.cell_of_heap HN9.out 2))
 have G3 := hid (show ∀ w', Below w9.heap.size w9 w' → w'.cell? ⟨w.heap.size, 3, none⟩ = some (pv) from fun w' hC => cell_below hC (Lib.cell_of_heap HN9.out 3))
 have G4 := hid (show ∀ w', Below w9.heap.size w9 w' → w'.cell? ⟨w.heap.size, 4, none⟩ = some (.int .i64 G.start) from fun w' hC => cell_below hC (Lib.cell_of_heap HN9.out 4))
 go_loopw [12] (fun t12 wr => ∃ i : Nat, i ≤ n ∧ t12 = .int .i64 (i : Int) ∧ Hid (Below w9.heap.size w9 wr)) (fun t12 _ => n - (RowKit.intOf t12).toNat)
 case atStart => exact ⟨0, Nat.zero_le _, rfl, hid (Below.refl _ _)⟩
 case round =>
  obtain ⟨i, hi, rfl, HR⟩ := hrel
  by_cases hlt : i < n
  ·have hM1 := HTL.out.2.1
   have hbd := HBD.out
   have hs0 := HS0.out
   have m1 : (i : Int) < (n : Int) := by omega
   have m0 : (0 : Int) ≤ (i : Int) := by omega
   have hw : IntKind.i64.wrap ((T : Int) + 1) = (M : Int) := by rw [wrap_small (by omega) (by omega)]; omega
   obtain ⟨db, df, du, rfl, d0, du1⟩ := HTP.out.1.at_ hlt
   obtain ⟨rw_, rc, rfl, hul, hux⟩ := du1
   rw [onlyX_len] at hux d0
   obtain ⟨rb, rf, rfl, hrow⟩ := hux (by omega)
   obtain ⟨nb, nf, nu, rfl, n0, nu1⟩ := HTP.out.2.1.at_ hlt
   obtain ⟨⟨no_, nc_, rfl, hnl, hnx⟩, _⟩ := nu1
   have hnlen : (nextX G (iterB G n).nx i S).length = S := by unfold nextX; simp
   rw [hnlen] at hnx n0
   obtain ⟨ob, of_, rfl, hnrow⟩ := hnx hs0
   obtain ⟨mb, mf, rfl, mc⟩ := U64s.at_ HTP.out.2.2 (k := i) (by rw [List.length_map, List.length_range]; exact hlt)
   rw [List.getD_eq_getElem?_getD, List.getElem?_map, List.getElem?_range hlt, Option.map_some, Option.getD_some] at mc
   rw [HTL.out.1, HTL.out.2.1] at HK9
   obtain ⟨ab, af, au, rfl, a0, au1⟩ := HK9.out.at_ hlt
   obtain ⟨kb0, kb1, rfl, _⟩ := au1.len
   have HAU1 := hid au1
   have A0 := hid (show ∀ w', Below w9.heap.size w9 w' → w'.cell? ⟨w4.heap.size, 0, none⟩ = some (.slice (some ⟨db, df, none⟩) n dvc) from fun w' hC => (HBX.out w' (HX9.out.trans (hC.mono HX9.out.size))).1)
   have A1 := hid (show ∀ w', Below w9.heap.size w9 w' → w'.cell? ⟨w4.heap.size, 1, none⟩ = some (.slice (some ⟨nb, nf, none⟩) n nvc) from fun w' hC => (HBX.out w' (HX9.out.trans (hC.mono HX9.out.size))).2.1)
   have A2 := hid (show ∀ w', Below w9.heap.size w9 w' → w'.cell? ⟨w4.heap.size, 2, none⟩ = some (.slice (some ⟨mb, mf, none⟩) n mvc) from fun w' hC => (HBX.out w' (HX9.out.trans (hC.mono HX9.out.size))).2.2)
   have D0 := hid (show ∀ w', Below w9.heap.size w9 w' → w'.cell? ⟨db, df + i, none⟩ = some (.slice (some ⟨rb, rf, none⟩) M rc) from fun w' hC => cell_below hC (cell_below HY9.out d0))
   have N0 := hid (show ∀ w', Below w9.heap.size w9 w' → w'.cell? ⟨nb, nf + i, none⟩ = some (.slice (some ⟨ob, of_, none⟩) S nc_) from fun w' hC => cell_below hC (cell_below HY9.out n0))
   have M0 := hid (show ∀ w', Below w9.heap.size w9 w' → w'.cell? ⟨mb, mf + i, none⟩ = some (S13.u64 (mayX (dS G n A i) M M)) from fun w' hC => cell_below hC (cell_below HY9.out mc))
   have K0 := hid (show ∀ w', Below w9.heap.size w9 w' → w'.cell? ⟨ab, af + i, none⟩ = some (.slice kb0 M kb1) from fun w' hC => cell_below hC a0)
   have HDR := hid (show ∀ j, j < M → ∀ w', Below w9.heap.size w9 w' → w'.cell? ⟨rb, rf + j * 2, none⟩ = some (.int .i64 ((dS G n A i j).headD (0, 0)).1) ∧ w'.cell? ⟨rb, rf + j * 2 + 1, none⟩ = some (.int .i64 ((dS G n A i j).headD (0, 0)).2) from fun j hj w' hC => by
    obtain ⟨h1, h2⟩ := hrow j hj
    rw [List.getD_eq_getElem?_getD, onlyX_get hj, Option.getD_some, if_pos hj] at h1 h2
    exact ⟨cell_below hC (cell_below HY9.out h1), cell_below hC (cell_below HY9.out h2)⟩)
   have HNR := hid (show ∀ s, s < S → ∀ w', Below w9.heap.size w9 w' → w'.cell? ⟨ob, of_ + s, none⟩ = some (.int .i64 (goX G (iterB G n).nx (i : Int) (-1 - (s : Int)))) from fun s hs w' hC => by
    have h1 : w4.cell? ⟨ob, of_ + s, none⟩ = some (.int .i64 ((nextX G (iterB G n).nx i S).getD s 0)) := hnrow s hs
    have h2 : (nextX G (iterB G n).nx i S).getD s 0 = goX G (iterB G n).nx (i : Int) (-1 - (s : Int)) := by
     unfold nextX
     rw [List.getD_eq_getElem?_getD, List.getElem?_map, List.getElem?_range hs, Option.map_some, Option.getD_some]
    rw [h2] at h1
    exact cell_below hC (cell_below HY9.out h1))
   clear d0 hul hux hrow n0 hnl hnx hnrow hnlen mc a0 au1
   have G0r := hid (fun (w' : World) (hC : Below wr.heap.size wr w') => G0.out w' (HR.out.trans (hC.mono HR.out.size)))
   have G2r := hid (fun (w' : World) (hC : Below wr.heap.size wr w') => G2.out w' (HR.out.trans (hC.mono HR.out.size)))
   have A0r := hid (fun (w' : World) (hC : Below wr.heap.size wr w') => A0.out w' (HR.out.trans (hC.mono HR.out.size)))
   have A1r := hid (fun (w' : World) (hC : Below wr.heap.size wr w') => A1.out w' (HR.out.trans (hC.mono HR.out.size)))
   have D0r := hid (fun (w' : World) (hC : Below wr.heap.size wr w') => D0.out w' (HR.out.trans (hC.mono HR.out.size)))
   have N0r := hid (fun (w' : World) (hC : Below wr.heap.size wr w') => N0.out w' (HR.out.trans (hC.mono HR.out.size)))
   have hM61 : M ≤ 61 := by omega
   have hM0 : 0 < M := by omega
   clear hM1
   go_wp2_with fail
   refine wp_region_below (by kernel_rfl) (by kernel_rfl) ?_
   iterate 23
    with_reducible refine BigFrame.wpQuiet_want (by kernel_rfl) (fun K hK => ?_)
    apply Exists.intro
    refine ⟨fun w' hC => ?_, hK _ ?_⟩
    ·have f0' := A0r.out w' hC
     have f1' := A1r.out w' hC
     have f2' := D0r.out w' hC
     have f3' := N0r.out w' hC
     have f4' := G0r.out w' hC
     have f5' := G2r.out w' hC
     unfold Oper.quietAt
     go_simp
     first | with_reducible rfl | done
    clear hK K
    try simp only [Act.put, sjA, sj0, sjS, hw]
   refine wpQuiet_nil ?_
   intro w10 hb10
   have HR10 := hid (HR.out.trans (hb10.mono HR.out.size))
   clear hb10 HR G0r G2r A0r A1r D0r N0r hw
   go_wp2_with fail
   go_loopw [13, 14] (fun t13 t14 wr => ∃ j : Nat, j ≤ M ∧ t14 = .int .i64 (j : Int) ∧ t13 = S13.u64 (mayX (dS G n A i) M j) ∧ Hid (Below w9.heap.size w9 wr)) (fun _ t14 _ => M - (RowKit.intOf t14).toNat)
   case atStart => exact ⟨0, Nat.zero_le _, rfl, by unfold mayX; rfl, HR10⟩
   case round =>
    clear HR10
    obtain ⟨j, hj, rfl, rfl, HR⟩ := hrel
    have g0 := G0.out wr HR.out
    by_cases hlj : j < M
    ·have r1 : (j : Int) ≤ (T : Int) := by have := HTL.out.2.1; omega
     have r0 : (0 : Int) ≤ (j : Int) := by omega
     have r2 : (j : Int) < (M : Int) := by omega
     obtain ⟨Wi, ei⟩ : ∃ z, wr.alloc (.cells #[.int .i64 0, .int .i64 0] 91) = z := ⟨_, rfl⟩
     have ni : Wi.heap[wr.heap.size]? = some (.cells #[.int .i64 0, .int .i64 0] 91 (0, 0)) := by rw [← ei]; exact new_block _ _
     have tn0 : Wi.heap[wr.heap.size]? = some (.cells #[.int .i64 0, .int .i64 0] 91 (0, 0)) := ni
     have tc0 : Wi.cell? ⟨wr.heap.size, 0, none⟩ = some (.int .i64 0) := Lib.cell_of_heap tn0 0
     have tf0 := Lib.frozen_of_heap tn0 0
     obtain ⟨z0a, te0⟩ : ∃ z, Wi.setCell ⟨wr.heap.size, 0, none⟩ (.int .i64 0) = z := ⟨_, rfl⟩
     have tn1 : z0a.heap[wr.heap.size]? = some (.cells #[.int .i64 0, .int .i64 0] 91 (0, 0)) := by rw [← te0]; exact heap_setCell_same _ _ 0 _ 91 _ tn0
     have tc1 : z0a.cell? ⟨wr.heap.size, 1, none⟩ = some (.int .i64 0) := Lib.cell_of_heap tn1 1
     have tf1 := Lib.frozen_of_heap tn1 1
     obtain ⟨z0b, te1⟩ : ∃ z, z0a.setCell ⟨wr.heap.size, 1, none⟩ (.int .i64 0) = z := ⟨_, rfl⟩
     have tn2 : z0b.heap[wr.heap.size]? = some (.cells #[.int .i64 0, .int .i64 0] 91 (0, 0)) := by rw [← te1]; exact heap_setCell_same _ _ 1 _ 91 _ tn1
     have hbi : Below wr.heap.size wr z0b := by
      rw [← te1, ← te0, ← ei]
      exact (((Below.refl _ _).alloc (Nat.le_refl _) _).setCell (Nat.le_refl _) _).setCell (Nat.le_refl _) _
     have HRi := hid (HR.out.trans (hbi.mono HR.out.size))
     have gi := G0.out z0b HRi.out
     obtain ⟨jb, jf, ju, rfl, kj, hju⟩ := HAU1.out.at_ hlj
     have ki := K0.out z0b HRi.out
     have kj := cell_below HRi.out kj
     have hone : (dS G n A i j).length ≤ 1 := clX_none HNO.out i j hlt (by have := HTL.out; omega)
     have hmlt := mayX_lt (dS G n A i) M j
     cases hd : dS G n A i j with
     | nil =>
      rw [hd] at hju
      obtain ⟨xo, xc, rfl, _⟩ := hju.len
      rw [List.length_nil] at kj
      by_cases hz : j = T
      ·have e0 : ((j : Int) == (T : Int)) = true := by rw [beq_iff_eq]; omega
       have e1 : decide ((j : Int) = (T : Int)) = true := decide_eq_true (by omega)
       have HZ := hid (show j + 1 = M from by have := HTL.out.2.1; omega)
       subst hz
       have A0q := hid (fun (w' : World) (hC : Below z0b.heap.size z0b w') => A0.out w' (HRi.out.trans (hC.mono HRi.out.size)))
       have D0q := hid (fun (w' : World) (hC : Below z0b.heap.size z0b w') => D0.out w' (HRi.out.trans (hC.mono HRi.out.size)))
       have HDq := hid (show ∀ w', Below z0b.heap.size z0b w' → w'.cell? ⟨rb, rf + j * 2, none⟩ = some (.int .i64 0) ∧ w'.cell? ⟨rb, rf + j * 2 + 1, none⟩ = some (.int .i64 0) from fun w' hC => by
        have := HDR.out j hlj w' (HRi.out.trans (hC.mono HRi.out.size))
        rw [hd] at this
        exact this)
       have HIq := hid (show ∀ w', Below z0b.heap.size z0b w' → w'.cell? ⟨wr.heap.size, 0, none⟩ = some (.int .i64 0) ∧ w'.cell? ⟨wr.heap.size, 1, none⟩ = some (.int .i64 0) from fun w' hC => ⟨cell_below hC (Lib.cell_of_heap tn2 0), cell_below hC (Lib.cell_of_heap tn2 1)⟩)
       go_wp2_with fail
       clear gi ki kj g0 tc0 tf0 tc1 tf1 tn0 tn1 tn2 te0 te1 ei ni hbi
       refine wp_region_below (by kernel_rfl) (by kernel_rfl) ?_
       iterate 10
        with_reducible refine BigFrame.wpQuiet_want (by kernel_rfl) (fun K hK => ?_)
        apply Exists.intro
        refine ⟨fun w' hC => ?_, hK _ ?_⟩
        ·have f0' := A0q.out w' hC
         have f1' := D0q.out w' hC
         have f2' := HDq.out w' hC
         have f3' := HIq.out w' hC
         unfold Oper.quietAt
         go_simp
         first | with_reducible rfl | done
        clear hK K
        try simp only [Act.put, sjA, sj0, sjS]
       refine wpQuiet_nil ?_
       intro w11 hb11
       have HR11 := hid (HRi.out.trans (hb11.mono HRi.out.size))
       clear hb11 A0q D0q HDq HIq
       go_wp2_with fail
       refine ⟨⟨j + 1, by omega, by go_num, ?_, HR11⟩, ?_⟩
       ·rw [show mayX (dS G n A i) M (j + 1) = mayX (dS G n A i) M j from by rw [mayX, if_pos hd]]
       ·simp [RowKit.intOf]
        omega
      ·have e0 : ((j : Int) == (T : Int)) = false := by rw [beq_eq_false_iff_ne]; omega
       have e1 : decide ((j : Int) = (T : Int)) = false := decide_eq_false (by omega)
       have HZ := hid (show ¬ j + 1 = M from by have := HTL.out.2.1; omega)
       have A0q := hid (fun (w' : World) (hC : Below z0b.heap.size z0b w') => A0.out w' (HRi.out.trans (hC.mono HRi.out.size)))
       have D0q := hid (fun (w' : World) (hC : Below z0b.heap.size z0b w') => D0.out w' (HRi.out.trans (hC.mono HRi.out.size)))
       have HDq := hid (show ∀ w', Below z0b.heap.size z0b w' → w'.cell? ⟨rb, rf + j * 2, none⟩ = some (.int .i64 0) ∧ w'.cell? ⟨rb, rf + j * 2 + 1, none⟩ = some (.int .i64 0) from fun w' hC => by
        have := HDR.out j hlj w' (HRi.out.trans (hC.mono HRi.out.size))
        rw [hd] at this
        exact this)
       have HIq := hid (show ∀ w', Below z0b.heap.size z0b w' → w'.cell? ⟨wr.heap.size, 0, none⟩ = some (.int .i64 0) ∧ w'.cell? ⟨wr.heap.size, 1, none⟩ = some (.int .i64 0) from fun w' hC => ⟨cell_below hC (Lib.cell_of_heap tn2 0), cell_below hC (Lib.cell_of_heap tn2 1)⟩)
       go_wp2_with fail
       clear gi ki kj g0 tc0 tf0 tc1 tf1 tn0 tn1 tn2 te0 te1 ei ni hbi
       refine wp_region_below (by kernel_rfl) (by kernel_rfl) ?_
       iterate 10
        with_reducible refine BigFrame.wpQuiet_want (by kernel_rfl) (fun K hK => ?_)
        apply Exists.intro
        refine ⟨fun w' hC => ?_, hK _ ?_⟩
        ·have f0' := A0q.out w' hC
         have f1' := D0q.out w' hC
         have f2' := HDq.out w' hC
         have f3' := HIq.out w' hC
         unfold Oper.quietAt
         go_simp
         first | with_reducible rfl | done
        clear hK K
        try simp only [Act.put, sjA, sj0, sjS]
       refine wpQuiet_nil ?_
       intro w11 hb11
       have HR11 := hid (HRi.out.trans (hb11.mono HRi.out.size))
       clear hb11 A0q D0q HDq HIq
       go_wp2_with fail
       refine ⟨⟨j + 1, by omega, by go_num, ?_, HR11⟩, ?_⟩
       ·rw [show mayX (dS G n A i) M (j + 1) = mayX (dS G n A i) M j from by rw [mayX, if_pos hd]]
       ·simp [RowKit.intOf]
        omega
     | cons x l =>
      rw [hd] at hju hone
      obtain rfl : l = [] := List.eq_nil_of_length_eq_zero (by rw [List.length_cons] at hone; omega)
      obtain ⟨x1, x2⟩ := x
      obtain ⟨xo, xc, rfl, _, hxx⟩ := hju
      obtain ⟨qb, qf, rfl, hcell⟩ := hxx (by simp)
      obtain ⟨kx0, kx1⟩ := hcell 0 (by simp)
      have kx0 : z0b.cell? ⟨qb, qf, none⟩ = some (.int .i64 x1) := cell_below HRi.out (by rw [Nat.zero_mul, Nat.add_zero] at kx0; exact kx0)
      have kx1 : z0b.cell? ⟨qb, qf + 1, none⟩ = some (.int .i64 x2) := cell_below HRi.out (by rw [Nat.zero_mul, Nat.add_zero] at kx1; exact kx1)
      have kj : z0b.cell? ⟨jb, jf + j, none⟩ = some (.slice (some ⟨qb, qf, none⟩) 1 xc) := kj
      clear hcell hxx
      by_cases hz : j = T
      ·have e0 : ((j : Int) == (T : Int)) = true := by rw [beq_iff_eq]; omega
       have e1 : decide ((j : Int) = (T : Int)) = true := decide_eq_true (by omega)
       have HZ := hid (show j + 1 = M from by have := HTL.out.2.1; omega)
       subst hz
       have sn0 : z0b.heap[wr.heap.size]? = some (.cells #[.int .i64 0, .int .i64 0] 91 (0, 0)) := tn2
       have sc0 : z0b.cell? ⟨wr.heap.size, 0, none⟩ = some (.int .i64 0) := Lib.cell_of_heap sn0 0
       have sf0 := Lib.frozen_of_heap sn0 0
       obtain ⟨v1, se0⟩ : ∃ z, z0b.setCell ⟨wr.heap.size, 0, none⟩ (.int .i64 x1) = z := ⟨_, rfl⟩
       have sn1 : v1.heap[wr.heap.size]? = some (.cells #[.int .i64 x1, .int .i64 0] 91 (0, 0)) := by rw [← se0]; exact heap_setCell_same _ _ 0 _ 91 _ sn0
       have sc1 : v1.cell? ⟨wr.heap.size, 1, none⟩ = some (.int .i64 0) := Lib.cell_of_heap sn1 1
       have sf1 := Lib.frozen_of_heap sn1 1
       obtain ⟨v2, se1⟩ : ∃ z, v1.setCell ⟨wr.heap.size, 1, none⟩ (.int .i64 x2) = z := ⟨_, rfl⟩
       have sn2 : v2.heap[wr.heap.size]? = some (.cells #[.int .i64 x1, .int .i64 x2] 91 (0, 0)) := by rw [← se1]; exact heap_setCell_same _ _ 1 _ 91 _ sn1
       have hbv : Below wr.heap.size wr v2 := by
        rw [← se1, ← se0]
        exact (hbi.setCell (Nat.le_refl _) _).setCell (Nat.le_refl _) _
       have HRv := hid (HR.out.trans (hbv.mono HR.out.size))
       have KW := hid (S13.With_any (mayX (dS G n A i) M j) (63) hmlt v2)
       go_wp2_with fail
       refine KW.out.mono ?_
       rintro e v3 ⟨rfl, rfl⟩
       have A0q := hid (fun (w' : World) (hC : Below v2.heap.size v2 w') => A0.out w' (HRv.out.trans (hC.mono HRv.out.size)))
       have D0q := hid (fun (w' : World) (hC : Below v2.heap.size v2 w') => D0.out w' (HRv.out.trans (hC.mono HRv.out.size)))
       have HDq := hid (show ∀ w', Below v2.heap.size v2 w' → w'.cell? ⟨rb, rf + j * 2, none⟩ = some (.int .i64 x1) ∧ w'.cell? ⟨rb, rf + j * 2 + 1, none⟩ = some (.int .i64 x2) from fun w' hC => by
        have := HDR.out j hlj w' (HRv.out.trans (hC.mono HRv.out.size))
        rw [hd] at this
        exact this)
       have HIq := hid (show ∀ w', Below v2.heap.size v2 w' → w'.cell? ⟨wr.heap.size, 0, none⟩ = some (.int .i64 x1) ∧ w'.cell? ⟨wr.heap.size, 1, none⟩ = some (.int .i64 x2) from fun w' hC => ⟨cell_below hC (Lib.cell_of_heap sn2 0), cell_below hC (Lib.cell_of_heap sn2 1)⟩)
       clear gi ki kj g0 kx0 kx1 KW hbv sc0 sf0 sc1 sf1 sn0 sn1 tc0 tf0 tc1 tf1 tn0 tn1
       go_wp2_with fail
       clear ei se0 se1 te0 te1
       refine wp_region_below (by kernel_rfl) (by kernel_rfl) ?_
       iterate 10
        with_reducible refine BigFrame.wpQuiet_want (by kernel_rfl) (fun K hK => ?_)
        apply Exists.intro
        refine ⟨fun w' hC => ?_, hK _ ?_⟩
        ·have f0' := A0q.out w' hC
         have f1' := D0q.out w' hC
         have f2' := HDq.out w' hC
         have f3' := HIq.out w' hC
         unfold Oper.quietAt
         go_simp
         first | with_reducible rfl | done
        clear hK K
        try simp only [Act.put, sjA, sj0, sjS]
       refine wpQuiet_nil ?_
       intro w11 hb11
       have HR11 := hid (HRv.out.trans (hb11.mono HRv.out.size))
       clear hb11 A0q D0q HDq HIq
       go_wp2_with fail
       refine ⟨⟨j + 1, by omega, by go_num, ?_, HR11⟩, ?_⟩
       ·rw [show mayX (dS G n A i) M (j + 1) = mayX (dS G n A i) M j ||| bitN (if j + 1 = M then 63 else (j : Int)) from by rw [mayX, if_neg (by rw [hd]; simp)], if_pos HZ.out]
       ·simp [RowKit.intOf]
        omega
      ·have e0 : ((j : Int) == (T : Int)) = false := by rw [beq_eq_false_iff_ne]; omega
       have e1 : decide ((j : Int) = (T : Int)) = false := decide_eq_false (by omega)
       have HZ := hid (show ¬ j + 1 = M from by have := HTL.out.2.1; omega)
       have sn0 : z0b.heap[wr.heap.size]? = some (.cells #[.int .i64 0, .int .i64 0] 91 (0, 0)) := tn2
       have sc0 : z0b.cell? ⟨wr.heap.size, 0, none⟩ = some (.int .i64 0) := Lib.cell_of_heap sn0 0
       have sf0 := Lib.frozen_of_heap sn0 0
       obtain ⟨v1, se0⟩ : ∃ z, z0b.setCell ⟨wr.heap.size, 0, none⟩ (.int .i64 x1) = z := ⟨_, rfl⟩
       have sn1 : v1.heap[wr.heap.size]? = some (.cells #[.int .i64 x1, .int .i64 0] 91 (0, 0)) := by rw [← se0]; exact heap_setCell_same _ _ 0 _ 91 _ sn0
       have sc1 : v1.cell? ⟨wr.heap.size, 1, none⟩ = some (.int .i64 0) := Lib.cell_of_heap sn1 1
       have sf1 := Lib.frozen_of_heap sn1 1
       obtain ⟨v2, se1⟩ : ∃ z, v1.setCell ⟨wr.heap.size, 1, none⟩ (.int .i64 x2) = z := ⟨_, rfl⟩
       have sn2 : v2.heap[wr.heap.size]? = some (.cells #[.int .i64 x1, .int .i64 x2] 91 (0, 0)) := by rw [← se1]; exact heap_setCell_same _ _ 1 _ 91 _ sn1
       have hbv : Below wr.heap.size wr v2 := by
        rw [← se1, ← se0]
        exact (hbi.setCell (Nat.le_refl _) _).setCell (Nat.le_refl _) _
       have HRv := hid (HR.out.trans (hbv.mono HR.out.size))
       have KW := hid (S13.With_any (mayX (dS G n A i) M j) ((j : Int)) hmlt v2)
       go_wp2_with fail
       refine KW.out.mono ?_
       rintro e v3 ⟨rfl, rfl⟩
       have A0q := hid (fun (w' : World) (hC : Below v2.heap.size v2 w') => A0.out w' (HRv.out.trans (hC.mono HRv.out.size)))
       have D0q := hid (fun (w' : World) (hC : Below v2.heap.size v2 w') => D0.out w' (HRv.out.trans (hC.mono HRv.out.size)))
       have HDq := hid (show ∀ w', Below v2.heap.size v2 w' → w'.cell? ⟨rb, rf + j * 2, none⟩ = some (.int .i64 x1) ∧ w'.cell? ⟨rb, rf + j * 2 + 1, none⟩ = some (.int .i64 x2) from fun w' hC => by
        have := HDR.out j hlj w' (HRv.out.trans (hC.mono HRv.out.size))
        rw [hd] at this
        exact this)
       have HIq := hid (show ∀ w', Below v2.heap.size v2 w' → w'.cell? ⟨wr.heap.size, 0, none⟩ = some (.int .i64 x1) ∧ w'.cell? ⟨wr.heap.size, 1, none⟩ = some (.int .i64 x2) from fun w' hC => ⟨cell_below hC (Lib.cell_of_heap sn2 0), cell_below hC (Lib.cell_of_heap sn2 1)⟩)
       clear gi ki kj g0 kx0 kx1 KW hbv sc0 sf0 sc1 sf1 sn0 sn1 tc0 tf0 tc1 tf1 tn0 tn1
       go_wp2_with fail
       clear ei se0 se1 te0 te1
       refine wp_region_below (by kernel_rfl) (by kernel_rfl) ?_
       iterate 10
        with_reducible refine BigFrame.wpQuiet_want (by kernel_rfl) (fun K hK => ?_)
        apply Exists.intro
        refine ⟨fun w' hC => ?_, hK _ ?_⟩
        ·have f0' := A0q.out w' hC
         have f1' := D0q.out w' hC
         have f2' := HDq.out w' hC
         have f3' := HIq.out w' hC
         unfold Oper.quietAt
         go_simp
         first | with_reducible rfl | done
        clear hK K
        try simp only [Act.put, sjA, sj0, sjS]
       refine wpQuiet_nil ?_
       intro w11 hb11
       have HR11 := hid (HRv.out.trans (hb11.mono HRv.out.size))
       clear hb11 A0q D0q HDq HIq
       go_wp2_with fail
       refine ⟨⟨j + 1, by omega, by go_num, ?_, HR11⟩, ?_⟩
       ·rw [show mayX (dS G n A i) M (j + 1) = mayX (dS G n A i) M j ||| bitN (if j + 1 = M then 63 else (j : Int)) from by rw [mayX, if_neg (by rw [hd]; simp)], if_neg HZ.out]
       ·simp [RowKit.intOf]
        omega
    ·obtain rfl : M = j := by omega
     have r1 : ¬ (M : Int) ≤ (T : Int) := by have := HTL.out.2.1; omega
     go_wp2_with fail
     clear g0
     go_loopw [17] (fun t17 wr => ∃ s : Nat, s ≤ S ∧ t17 = .int .i64 (s : Int) ∧ Hid (Below w9.heap.size w9 wr)) (fun t17 _ => S - (RowKit.intOf t17).toNat)
     case atStart => exact ⟨0, Nat.zero_le _, rfl, HR⟩
     case round =>
      clear HR
      obtain ⟨s, hs, rfl, HR⟩ := hrel
      have g2 := G2.out wr HR.out
      by_cases hls : s < S
      ·have y1 : (s : Int) < (S : Int) := by omega
       have y0 : (0 : Int) ≤ (s : Int) := by omega
       have hw2 : IntKind.i64.wrap (-1 - (s : Int)) = -1 - (s : Int) := wrap_small (by omega) (by omega)
       have A1q := hid (fun (w' : World) (hC : Below wr.heap.size wr w') => A1.out w' (HR.out.trans (hC.mono HR.out.size)))
       have N0q := hid (fun (w' : World) (hC : Below wr.heap.size wr w') => N0.out w' (HR.out.trans (hC.mono HR.out.size)))
       have G0q := hid (fun (w' : World) (hC : Below wr.heap.size wr w') => G0.out w' (HR.out.trans (hC.mono HR.out.size)))
       have G1q := hid (fun (w' : World) (hC : Below wr.heap.size wr w') => G1.out w' (HR.out.trans (hC.mono HR.out.size)))
       have G2q := hid (fun (w' : World) (hC : Below wr.heap.size wr w') => G2.out w' (HR.out.trans (hC.mono HR.out.size)))
       have G3q := hid (fun (w' : World) (hC : Below wr.heap.size wr w') => G3.out w' (HR.out.trans (hC.mono HR.out.size)))
       have G4q := hid (fun (w' : World) (hC : Below wr.heap.size wr w') => G4.out w' (HR.out.trans (hC.mono HR.out.size)))
       have HABq := hid (fun (w' : World) (hC : Below wr.heap.size wr w') => HAB.out w' (HR.out.trans (hC.mono HR.out.size)))
       have HNs := hid (fun (w' : World) (hC : Below wr.heap.size wr w') => HNR.out s hls w' (HR.out.trans (hC.mono HR.out.size)))
       have KG := hid (show ∀ w', Below wr.heap.size wr w' → Calls Tryz.prog 27 #[.agg #[.slice to_ T tc, ov, .slice so S sc, pv, .int .i64 G.start], .agg #[.slice ko kl kc, .slice no nl nc], .int .i64 (i : Int), .int .i64 (-1 - (s : Int))] w' fun e w'' => e = .returned (.int .i64 (goX G (iterB G n).nx (i : Int) (-1 - (s : Int)))) ∧ Below w'.heap.size w' w'' from fun w' hC =>
        Go_any (HGr.out.below (HB9.out.trans ((HR.out.trans (hC.mono HR.out.size)).mono HB9.out.size))) (HAU9.out.below (HR.out.trans (hC.mono HR.out.size))) (NxOk.built HV.out.2.1) (i : Int) (-1 - (s : Int)) (by omega) (by omega))
       obtain ⟨gz, hgz⟩ : ∃ gz, goX G (iterB G n).nx (i : Int) (-1 - (s : Int)) = gz := ⟨_, rfl⟩
       rw [hgz] at HNs KG
       clear hgz
       go_wp2_with fail
       clear g2
       refine wp_region_below (by kernel_rfl) (by kernel_rfl) ?_
       iterate 15
        with_reducible refine BigFrame.wpQuiet_want (by kernel_rfl) (fun K hK => ?_)
        apply Exists.intro
        refine ⟨fun w' hC => ?_, hK _ ?_⟩
        ·have f0' := A1q.out w' hC
         have f1' := N0q.out w' hC
         have f2' := G0q.out w' hC
         have f3' := G1q.out w' hC
         have f4' := G2q.out w' hC
         have f5' := G3q.out w' hC
         have f6' := G4q.out w' hC
         have f7' := HABq.out w' hC
         have f8' := HNs.out w' hC
         unfold Oper.quietAt
         go_simp
         first | with_reducible rfl | with_reducible exact below_call hC (Nat.le_refl _) (KG.out w' hC)
        clear hK K
        try simp only [Act.put, sjA, sj0, sjS, hw2]
       refine wpQuiet_nil ?_
       intro w12 hb12
       have HR12 := hid (HR.out.trans (hb12.mono HR.out.size))
       clear hb12
       go_wp2_with fail
       refine ⟨⟨s + 1, by omega, by go_num, HR12⟩, ?_⟩
       simp [RowKit.intOf]
       omega
      ·have y1 : ¬ (s : Int) < (S : Int) := by omega
       have a2 := A2.out wr HR.out
       have m2 := M0.out wr HR.out
       obtain ⟨my, hmy⟩ : ∃ my, mayX (dS G n A i) M M = my := ⟨_, rfl⟩
       rw [hmy] at m2 ⊢
       go_wp2_with fail
       refine ⟨⟨i + 1, by omega, by go_num, HR⟩, ?_⟩
       simp [RowKit.intOf]
       omega
  ·have m1 : ¬ (i : Int) < (n : Int) := by omega
   go_wp2_with fail
   go_ret
   exact ⟨rfl, HB9.out.trans (HR.out.mono HB9.out.size)⟩
end Go.Proofs.YticmnfmijdgmbaaGreatDoor
