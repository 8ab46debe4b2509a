/- The document's example of look holds. -/
import Derived.Test.YticmnfmijdgmbaaGreatDoorGb
import Derived.Test.YticmnfmijdgmbaaGreatDoorYa
import Derived.Test.YticmnfmijdgmbaaGreatDoorXs
import Derived.Deep.Slices
import Derived.OpenShut
import Derived.ChangeSame
import Derived.Lib.SmallJoins
import Derived.LaidSub
import Derived.MakeChecks
import Derived.Test.YticmnfmijdgmbaaGreatDoorQHs
namespace Go.Proofs.YticmnfmijdgmbaaGreatDoor
open Go Go.RowKit Go.Lib
open X14 (It exG closeX iterB BuiltOk)
open S13 (u64 bitN top E0 F0 Sub)
open S13.X15 (Pl LeastA askX places cxB)
set_option linter.unusedVariables false
set_option linter.unusedSimpArgs false
def wE (w : World) : World :=
 ((((w.alloc (.cells #[.string ⟨#[97]⟩, .string ⟨#[]⟩, .bool false, .int .i64 0] 105)).alloc (.cells #[.string ⟨#[83]⟩] 9)).alloc (.cells #[.int .i64 0] 61)).alloc
   (.cells #[.string ⟨#[112]⟩, .int .i64 0, .slice (some ⟨w.heap.size + 1 + 1, 0, none⟩) 1 1, .int .i64 0] 71)).alloc
   (.cells #[.slice (some ⟨w.heap.size, 0, none⟩) 1 1, .slice none 0 0, .slice (some ⟨w.heap.size + 1, 0, none⟩) 1 1, .slice (some ⟨w.heap.size + 1 + 1 + 1, 0, none⟩) 1 1, .int .i64 0] 27)
abbrev gE (w : World) : Value := .agg #[.slice (some ⟨w.heap.size, 0, none⟩) 1 1, .slice none 0 0, .slice (some ⟨w.heap.size + 1, 0, none⟩) 1 1, .slice (some ⟨w.heap.size + 1 + 1 + 1, 0, none⟩) 1 1, .int .i64 0]
theorem below_al {B : Nat} {a w : World} (h : Below B a w) (hB : B ≤ w.heap.size) (o : Obj) : Below B a (w.alloc o) ∧ B ≤ (w.alloc o).heap.size := ⟨h.alloc hB o, by simp; omega⟩
theorem wE_below (w : World) : Below w.heap.size w (wE w) := by
 have h1 := below_al (Below.refl w.heap.size w) (Nat.le_refl _) (.cells #[.string ⟨#[97]⟩, .string ⟨#[]⟩, .bool false, .int .i64 0] 105)
 have h2 := below_al h1.1 h1.2 (.cells #[.string ⟨#[83]⟩] 9)
 have h3 := below_al h2.1 h2.2 (.cells #[.int .i64 0] 61)
 have h4 := below_al h3.1 h3.2 (.cells #[.string ⟨#[112]⟩, .int .i64 0, .slice (some ⟨w.heap.size + 1 + 1, 0, none⟩) 1 1, .int .i64 0] 71)
 exact (below_al h4.1 h4.2 _).1
theorem heap_al {w : World} {o o' : Obj} {g : Nat} (h : w.heap[g]? = some o) : (w.alloc o').heap[g]? = some o := (Below.heap_alloc w o' g (Array.getElem?_eq_some_iff.1 h).1).trans h
theorem new_at (w : World) (o : Obj) {g : Nat} (h : w.heap.size = g) : (w.alloc o).heap[g]? = some o := by rw [← h]; exact new_block w o
theorem wE_0 (w : World) : (wE w).heap[w.heap.size]? = some (.cells #[.string ⟨#[97]⟩, .string ⟨#[]⟩, .bool false, .int .i64 0] 105) := heap_al (heap_al (heap_al (heap_al (new_block w _))))
theorem wE_1 (w : World) : (wE w).heap[w.heap.size + 1]? = some (.cells #[.string ⟨#[83]⟩] 9) := heap_al (heap_al (heap_al (new_at _ _ (by simp))))
theorem wE_2 (w : World) : (wE w).heap[w.heap.size + 1 + 1]? = some (.cells #[.int .i64 0] 61) := heap_al (heap_al (new_at _ _ (by simp)))
theorem wE_3 (w : World) : (wE w).heap[w.heap.size + 1 + 1 + 1]? = some (.cells #[.string ⟨#[112]⟩, .int .i64 0, .slice (some ⟨w.heap.size + 1 + 1, 0, none⟩) 1 1, .int .i64 0] 71) := heap_al (new_at _ _ (by simp))
theorem wE_4 (w : World) : (wE w).heap[w.heap.size + 1 + 1 + 1 + 1]? = some (.cells #[.slice (some ⟨w.heap.size, 0, none⟩) 1 1, .slice none 0 0, .slice (some ⟨w.heap.size + 1, 0, none⟩) 1 1, .slice (some ⟨w.heap.size + 1 + 1 + 1, 0, none⟩) 1 1, .int .i64 0] 27) := new_at _ _ (by simp)
theorem gE_at (w : World) : Gram (wE w) (gE w) exG := by
 refine ⟨.slice (some ⟨w.heap.size, 0, none⟩) 1 1, .slice none 0 0, .slice (some ⟨w.heap.size + 1, 0, none⟩) 1 1, .slice (some ⟨w.heap.size + 1 + 1 + 1, 0, none⟩) 1 1, fun _ j => if j = 1 then .string ⟨#[]⟩ else if j = 2 then .bool false else .int .i64 0, fun _ => .slice (some ⟨w.heap.size + 1 + 1, 0, none⟩) 1 1, rfl, ?_, ?_, ?_, ?_, ?_, ?_⟩
 ·refine ⟨_, _, rfl, by decide, fun _ => ⟨_, 0, rfl, fun i hi => ?_⟩⟩
  obtain rfl : i = 0 := by have : i < 1 := hi; omega
  exact ⟨Lib.cell_of_heap (wE_0 w) 0, Lib.cell_of_heap (wE_0 w) 1, Lib.cell_of_heap (wE_0 w) 2, Lib.cell_of_heap (wE_0 w) 3⟩
 ·exact ⟨_, _, rfl, by decide, fun h => absurd h (by decide)⟩
 ·refine ⟨_, _, rfl, by decide, fun _ => ⟨_, 0, rfl, fun i hi => ?_⟩⟩
  obtain rfl : i = 0 := by have : i < 1 := hi; omega
  exact Lib.cell_of_heap (wE_1 w) 0
 ·refine ⟨_, _, rfl, by decide, fun _ => ⟨_, 0, rfl, fun i hi => ?_⟩⟩
  obtain rfl : i = 0 := by have : i < 1 := hi; omega
  exact ⟨Lib.cell_of_heap (wE_3 w) 0, Lib.cell_of_heap (wE_3 w) 1, Lib.cell_of_heap (wE_3 w) 2, Lib.cell_of_heap (wE_3 w) 3⟩
 ·intro i hi
  obtain rfl : i = 0 := by have : i < 1 := hi; omega
  refine ⟨⟨_, _, rfl, by decide, fun _ => ⟨_, 0, rfl, fun i hi => ?_⟩⟩, by decide⟩
  obtain rfl : i = 0 := by have : i < 1 := hi; omega
  exact Lib.cell_of_heap (wE_2 w) 0
 ·intro i hi a n c e
  cases e
  decide
theorem ex_all {w w' : World} {e : Ending} (h : AllP exG w e w') : Below w.heap.size w w' ∧ ∃ v A, e = .returned (.tuple #[v, .int .i64 0]) ∧ A (1, ((0 : Int), (1 : Int))) = bitN 63 ∧ LookAt w' v 3 (cxB exG 3 (E0 exG) (F0 exG)).C A := by
 obtain ⟨hb, h | ⟨_, n, h | ⟨h, v, A, e1, h2, h3⟩⟩⟩ := h
 ·rw [X14.ex_valid] at h
  cases h.1
 ·exact (X14.Built.not X14.ex_ok h.1).elim
 ·obtain rfl := X14.Built.one h X14.ex_ok
  exact ⟨hb, v, A, e1, S13.X15.ex_A h2, h3⟩
theorem ex_ahead {w w' : World} {e : Ending} (h : AheadP exG [[(-1, 0)], [(0, 1)], [(-1, 1)]] [[1, 2], [-1, -1], [-1, -1]] w e w') : Below w.heap.size w w' ∧ ∃ o c, e = .returned (.slice o 3 c) := by
 obtain ⟨hb, ⟨h, _⟩ | ⟨_, n, h, _, _, v, A, e1, h2, h3⟩⟩ := h
 ·rcases h with h | ⟨_, ⟨n, h⟩ | ⟨n, h, hn⟩⟩
  ·rw [X14.ex_valid] at h; cases h
  ·exact (X14.Built.not X14.ex_ok h).elim
  ·obtain rfl := X14.Built.one h X14.ex_ok
   exact absurd ⟨X14.ex_i3.1.symm, X14.ex_i3.2.symm⟩ hn
 ·obtain rfl := X14.Built.one h X14.ex_ok
  obtain ⟨o, c, rfl, _⟩ := h3
  exact ⟨hb, o, c, e1⟩
theorem ex_done1 (x : Nat) (hx : x ≠ 0) : doneN exG [((0 : Int), (1 : Int))] [x] 1 = [0] := by
 have h : doneB exG [((0 : Int), (1 : Int))] [x] 0 = true := by
  unfold doneB
  refine decide_eq_true ⟨by simp, hx, ?_, ?_⟩
  ·rw [X14.ex_c1]; simp
  ·decide
 rw [doneN_yes h]
 rfl
theorem ex_done0 (us : List Nat) : doneN exG [((-1 : Int), (0 : Int)), (0, 0)] us 2 = [] := by
 have h0 : doneB exG [((-1 : Int), (0 : Int)), (0, 0)] us 0 = false := by
  unfold doneB
  refine decide_eq_false fun h => ?_
  have := h.2.2.2
  revert this; decide
 have h1 : doneB exG [((-1 : Int), (0 : Int)), (0, 0)] us 1 = false := by
  unfold doneB
  refine decide_eq_false fun h => ?_
  have := h.2.2.2
  revert this; decide
 rw [doneN_no h1, doneN_no h0]
 rfl
theorem U64s.below {w w' : World} {v : Value} {us : List Nat} (h : U64s w v us) (hb : Below w.heap.size w w') : U64s w' v us := RowAt.mono h fun _ _ _ h => cell_below hb h
theorem ex_rows {w : World} {v : Value} {A : Pl → Nat} (h : LookAt w v 3 (cxB exG 3 (E0 exG) (F0 exG)).C A) (hA : A (1, ((0 : Int), (1 : Int))) = bitN 63) : ∃ lb lo lc io0 ic0 ao0 ac0 io1 ic1 ab ao ac, v = .slice (some ⟨lb, lo, none⟩) 3 lc ∧ w.cell? ⟨lb, lo, none⟩ = some (.slice io0 2 ic0) ∧ w.cell? ⟨lb, lo + 1, none⟩ = some (.slice ao0 2 ac0) ∧
  w.cell? ⟨lb, lo + 2, none⟩ = some (.slice io1 1 ic1) ∧ w.cell? ⟨lb, lo + 2 + 1, none⟩ = some (.slice (some ⟨ab, ao, none⟩) 1 ac) ∧ w.cell? ⟨ab, ao, none⟩ = some (.int .u64 9223372036854775808) ∧ ItemsAt w (.slice io0 2 ic0) [((-1 : Int), (0 : Int)), (0, 0)] ∧ ItemsAt w (.slice io1 1 ic1) [((0 : Int), (1 : Int))] ∧
  U64s w (.slice ao0 2 ac0) ([((-1 : Int), (0 : Int)), (0, 0)].map fun x => A (0, x)) ∧ U64s w (.slice (some ⟨ab, ao, none⟩) 1 ac) [9223372036854775808] := by
 obtain ⟨o, lc, rfl, _, h⟩ := h
 obtain ⟨lb, lo, rfl, h2⟩ := h (by omega)
 obtain ⟨iv0, av0, a1, a2, a3, a4⟩ := h2 0 (by omega)
 obtain ⟨iv1, av1, b1, b2, b3, b4⟩ := h2 1 (by omega)
 rw [S13.X15.ex_C (by omega)] at a3 a4 b3 b4
 have b4' : U64s w av1 [9223372036854775808] := by
  have : ([[((-1 : Int), (0 : Int)), (0, 0)], [(0, 1)], [(-1, 1)]].getD 1 []).map (fun x => A (1, x)) = [9223372036854775808] := by
   show [A (1, ((0 : Int), (1 : Int)))] = _
   rw [hA]
   rfl
  rw [this] at b4
  exact b4
 obtain ⟨io0, ic0, rfl, _⟩ := id a3
 obtain ⟨io1, ic1, rfl, _⟩ := id b3
 obtain ⟨ao0, ac0, rfl, _⟩ := id a4
 obtain ⟨ao1, ac1, rfl, _, hx⟩ := id b4'
 obtain ⟨ab, ao, rfl, hx2⟩ := hx (by simp)
 exact ⟨lb, lo, lc, io0, ic0, ao0, ac0, io1, ic1, ab, ao, ac1, rfl, by simpa using a1, by simpa using a2, by simpa using b1, by simpa using b2, hx2 0 (by simp), a3, b3, a4, b4'⟩
theorem ownsT_shape {w : World} {B sz n : Nat} {v : Value} {xs : List Value} (h : ownsT w B sz v n xs) : ∃ o c, v = .slice o n c := by
 obtain ⟨_, ⟨rfl, rfl⟩ | ⟨g, off, cap, rfl, _⟩⟩ := h
 ·exact ⟨_, _, rfl⟩
 ·exact ⟨_, _, rfl⟩
theorem ownsT_get {w : World} {B sz n : Nat} {v : Value} {xs : List Value} (h : ownsT w B sz v n xs) (h0 : 0 < n) : ∃ g off c, v = .slice (some ⟨g, off, none⟩) n c ∧ ∀ j u, xs[j]? = some u → w.cell? ⟨g, off + j, none⟩ = some u := by
 obtain ⟨_, ⟨rfl, rfl⟩ | ⟨g, off, cap, rfl, _, _, _, _, h1, _⟩⟩ := h
 ·omega
 ·exact ⟨_, _, _, rfl, h1⟩
set_option maxRecDepth 100000 in
set_option maxHeartbeats 8000000 in
theorem works_any {Bt : Nat} (w : World) (ht : Tab Bt w) (hBt : Bt ≤ w.heap.size) : Calls Tryz.prog 15 #[] w fun e w' => e = .returned (.bool true) ∧ Below w.heap.size w w' := by
 have hB := wE_below w
 have n4 := wE_4 w
 have HG0 := hid (gE_at w)
 have HT0 := hid (ht.on (hB.mono hBt))
 unfold gE at HG0
 obtain ⟨w0, hw0⟩ : ∃ w0, w0 = wE w := ⟨_, rfl⟩
 rw [← hw0] at hB n4 HG0 HT0
 have c0 : w0.cell? ⟨w.heap.size + 1 + 1 + 1 + 1, 0, none⟩ = some (.slice (some ⟨w.heap.size, 0, none⟩) 1 1) := Lib.cell_of_heap n4 0
 have c1 : w0.cell? ⟨w.heap.size + 1 + 1 + 1 + 1, 1, none⟩ = some (.slice none 0 0) := Lib.cell_of_heap n4 1
 have c2 : w0.cell? ⟨w.heap.size + 1 + 1 + 1 + 1, 2, none⟩ = some (.slice (some ⟨w.heap.size + 1, 0, none⟩) 1 1) := Lib.cell_of_heap n4 2
 have c3 : w0.cell? ⟨w.heap.size + 1 + 1 + 1 + 1, 3, none⟩ = some (.slice (some ⟨w.heap.size + 1 + 1 + 1, 0, none⟩) 1 1) := Lib.cell_of_heap n4 3
 have c4 : w0.cell? ⟨w.heap.size + 1 + 1 + 1 + 1, 4, none⟩ = some (.int .i64 0) := Lib.cell_of_heap n4 4
 have HB0 := hid hB
 have hsz := hB.size
 have HN0 := hid n4
 have KB := hid (All_any HG0.out HT0.out (Nat.le_trans hBt hsz))
 clear hB n4
 go_enter Tryz.func15, Tryz.ntmps15
 go_upto_region 2 with fail
 unfold wE at hw0
 rw [← hw0]
 clear hw0
 go_wp2_with fail
 refine KB.out.mono ?_
 rintro e w1 hbp
 obtain ⟨hb1, v, A, rfl, hA, hrow⟩ := ex_all hbp
 obtain ⟨lb, lo, lc, io0, ic0, ao0, ac0, io1, ic1, ab, ao, ac, rfl, r0, r1, r2, r3, r4, HI0, HI1, HU0, HU1⟩ := ex_rows hrow hA
 have HI0 := hid HI0
 have HI1 := hid HI1
 have HU0 := hid HU0
 have HU1 := hid HU1
 have HR := hid (And.intro r0 (And.intro r1 (And.intro r2 (And.intro r3 r4))))
 have HB1 := hid (HB0.out.trans (hb1.mono hsz))
 have HG1 := hid (HG0.out.below hb1)
 have HN1 := hid ((hb1.block _ (Array.getElem?_eq_some_iff.1 HN0.out).1).trans HN0.out)
 clear hbp hrow hA KB c0 c1 c2 c3 c4 hb1
 have c0 : w1.cell? ⟨w.heap.size + 1 + 1 + 1 + 1, 0, none⟩ = some (.slice (some ⟨w.heap.size, 0, none⟩) 1 1) := Lib.cell_of_heap HN1.out 0
 have c1 : w1.cell? ⟨w.heap.size + 1 + 1 + 1 + 1, 1, none⟩ = some (.slice none 0 0) := Lib.cell_of_heap HN1.out 1
 have c2 : w1.cell? ⟨w.heap.size + 1 + 1 + 1 + 1, 2, none⟩ = some (.slice (some ⟨w.heap.size + 1, 0, none⟩) 1 1) := Lib.cell_of_heap HN1.out 2
 have c3 : w1.cell? ⟨w.heap.size + 1 + 1 + 1 + 1, 3, none⟩ = some (.slice (some ⟨w.heap.size + 1 + 1 + 1, 0, none⟩) 1 1) := Lib.cell_of_heap HN1.out 3
 have c4 : w1.cell? ⟨w.heap.size + 1 + 1 + 1 + 1, 4, none⟩ = some (.int .i64 0) := Lib.cell_of_heap HN1.out 4
 obtain ⟨we, ewe⟩ : ∃ we, w1.drew = we := ⟨_, rfl⟩
 have hbe : Below w1.heap.size w1 we := by rw [← ewe]; exact (Below.refl _ _).drew
 have HBe := hid (HB1.out.trans (hbe.mono HB1.out.size))
 have HGe := hid (HG1.out.below hbe)
 have HNe := hid ((hbe.block _ (Array.getElem?_eq_some_iff.1 HN1.out).1).trans HN1.out)
 have HRe := hid (And.intro (cell_below hbe HR.out.1) (And.intro (cell_below hbe HR.out.2.1) (And.intro (cell_below hbe HR.out.2.2.1) (And.intro (cell_below hbe HR.out.2.2.2.1) (cell_below hbe HR.out.2.2.2.2)))))
 have HIe := hid (And.intro (HI0.out.below hbe) (And.intro (HI1.out.below hbe) (And.intro (HU0.out.below hbe) (HU1.out.below hbe))))
 have HS := hid (show ∀ w', Below we.heap.size we w' → w'.cell? ⟨w.heap.size + 1 + 1 + 1 + 1, 0, none⟩ = some (.slice (some ⟨w.heap.size, 0, none⟩) 1 1) ∧ w'.cell? ⟨w.heap.size + 1 + 1 + 1 + 1, 1, none⟩ = some (.slice none 0 0) ∧ w'.cell? ⟨w.heap.size + 1 + 1 + 1 + 1, 2, none⟩ = some (.slice (some ⟨w.heap.size + 1, 0, none⟩) 1 1) ∧ w'.cell? ⟨w.heap.size + 1 + 1 + 1 + 1, 3, none⟩ = some (.slice (some ⟨w.heap.size + 1 + 1 + 1, 0, none⟩) 1 1) ∧ w'.cell? ⟨w.heap.size + 1 + 1 + 1 + 1, 4, none⟩ = some (.int .i64 0) ∧ w'.cell? ⟨lb, lo + 2, none⟩ = some (.slice io1 1 ic1) ∧ w'.cell? ⟨lb, lo + 2 + 1, none⟩ = some (.slice (some ⟨ab, ao, none⟩) 1 ac) from fun w' hC => by
  have nG := (hC.block _ (Array.getElem?_eq_some_iff.1 HNe.out).1).trans HNe.out
  exact ⟨Lib.cell_of_heap nG 0, Lib.cell_of_heap nG 1, Lib.cell_of_heap nG 2, Lib.cell_of_heap nG 3, Lib.cell_of_heap nG 4, cell_below hC HRe.out.2.2.1, cell_below hC HRe.out.2.2.2.1⟩)
 have HH0 := HS.out we (Below.refl _ _)
 clear hbe r0 r1 r3 r4 HI0 HI1 HU0 HU1 HR
 go_wp2_with fail
 refine region_T 5 (fun w' => w'.cell? ⟨w.heap.size + 1 + 1 + 1 + 1, 0, none⟩ = some (.slice (some ⟨w.heap.size, 0, none⟩) 1 1) ∧ w'.cell? ⟨w.heap.size + 1 + 1 + 1 + 1, 1, none⟩ = some (.slice none 0 0) ∧ w'.cell? ⟨w.heap.size + 1 + 1 + 1 + 1, 2, none⟩ = some (.slice (some ⟨w.heap.size + 1, 0, none⟩) 1 1) ∧ w'.cell? ⟨w.heap.size + 1 + 1 + 1 + 1, 3, none⟩ = some (.slice (some ⟨w.heap.size + 1 + 1 + 1, 0, none⟩) 1 1) ∧ w'.cell? ⟨w.heap.size + 1 + 1 + 1 + 1, 4, none⟩ = some (.int .i64 0) ∧ w'.cell? ⟨lb, lo + 2, none⟩ = some (.slice io1 1 ic1) ∧ w'.cell? ⟨lb, lo + 2 + 1, none⟩ = some (.slice (some ⟨ab, ao, none⟩) 1 ac)) (by kernel_rfl) (by rw [ewe]; exact HH0) (fun inv hHeld => ?_)
 rw [ewe]
 clear hHeld ewe
 iterate 4
  refine anyT_auto (v := ?_) rfl (by kernel_rfl) (fun _ _ _ h => h) (Or.inl ⟨by rfl, ?_⟩) HH0 inv (fun inv => ?_)
  rotate_left
  ·intro w hSw
   try dsimp only at hSw
   go_simp
   try with_reducible rfl
  simp only [Act.put, sjA, sj0, sjS]
 refine anyT_next (i := 4) (o := { dst := some 38, op := Go.Op.call { callee := Go.Callee.value (Go.Operand.func 21), args := #[Go.Operand.tmp 34, Go.Operand.tmp 37], argTypes := #[27, 48] }, type := 43, pos := "law.go:23", after := #[{ on := 0, ground := Go.Ground.data }, { on := 3, ground := Go.Ground.data }], guard := none }) (by kernel_rfl) rfl (by decide) inv (fun inv K' hK => ?_)
 go_simp
 refine (Done_any HGe.out X14.ex_valid HIe.out.2.1 (by show (1 : Nat) ≤ _; omega) HIe.out.2.2.2).mono ?_
 rintro e w2 ⟨dv, rfl, hb2, hdv⟩
 rw [show ([((0 : Int), (1 : Int))] : List It).length = 1 from rfl, ex_done1 _ (by decide)] at hdv
 have HDV := hid hdv
 have HB2 := hid hb2
 have HH1 := HS.out w2 hb2
 refine hK.out _ _ HH1 ?_
 clear hK K' HH0
 try simp only [Act.put, sjA, sj0, sjS]
 refine anyT_one (i := 5) (o := { dst := some 4, op := Go.Op.assign (Go.Operand.tmp 38), type := 43, pos := "law.go:23", after := #[{ on := 4, ground := Go.Ground.data }, { on := 4, ground := Go.Ground.chain }, { on := 0, ground := Go.Ground.phase }, { on := 1, ground := Go.Ground.phase }, { on := 2, ground := Go.Ground.phase }, { on := 3, ground := Go.Ground.phase }, { on := 4, ground := Go.Ground.phase }], guard := none }) (by kernel_rfl) rfl (fun K' hK => ?_)
 go_simp
 refine hK.out _ _ (fun h => absurd h (by decide)) ?_
 clear hK K'
 try simp only [Act.put, sjA, sj0, sjS]
 refine anyT_done (by kernel_rfl) ?_ _
 have HB3 := hid (HBe.out.trans (HB2.out.mono HBe.out.size))
 have HG2 := hid (HGe.out.below HB2.out)
 have HN2 := hid ((HB2.out.block _ (Array.getElem?_eq_some_iff.1 HNe.out).1).trans HNe.out)
 have HT2 := hid (ht.on (HB3.out.mono hBt))
 have KB := hid (Build_any HG2.out HT2.out (Nat.le_trans hBt HB3.out.size))
 clear HS HH1 c0 c1 c2 c3 c4
 have c0 : w2.cell? ⟨w.heap.size + 1 + 1 + 1 + 1, 0, none⟩ = some (.slice (some ⟨w.heap.size, 0, none⟩) 1 1) := Lib.cell_of_heap HN2.out 0
 have c1 : w2.cell? ⟨w.heap.size + 1 + 1 + 1 + 1, 1, none⟩ = some (.slice none 0 0) := Lib.cell_of_heap HN2.out 1
 have c2 : w2.cell? ⟨w.heap.size + 1 + 1 + 1 + 1, 2, none⟩ = some (.slice (some ⟨w.heap.size + 1, 0, none⟩) 1 1) := Lib.cell_of_heap HN2.out 2
 have c3 : w2.cell? ⟨w.heap.size + 1 + 1 + 1 + 1, 3, none⟩ = some (.slice (some ⟨w.heap.size + 1 + 1 + 1, 0, none⟩) 1 1) := Lib.cell_of_heap HN2.out 3
 have c4 : w2.cell? ⟨w.heap.size + 1 + 1 + 1 + 1, 4, none⟩ = some (.int .i64 0) := Lib.cell_of_heap HN2.out 4
 go_wp2_with fail
 refine KB.out.mono ?_
 rintro e w3 hbp
 obtain ⟨hb3, av, rfl, hav⟩ := ex_build hbp
 have HAV := hid hav
 obtain ⟨kv, nv, rfl, hkv, hnv⟩ := hav
 obtain ⟨ko, kc, rfl, _⟩ := hkv.len
 obtain ⟨no, nc, rfl, _⟩ := hnv.len
 obtain ⟨wA, eA⟩ : ∃ wA, w3.alloc (.cells #[.slice ko 3 kc, .slice no 3 nc] 55) = wA := ⟨_, rfl⟩
 have hbA : Below w3.heap.size w3 wA := by rw [← eA]; exact (Below.refl _ _).alloc (Nat.le_refl _) _
 have nA : wA.heap[w3.heap.size]? = some (.cells #[.slice ko 3 kc, .slice no 3 nc] 55 (0, 0)) := by rw [← eA]; exact new_block _ _
 obtain ⟨wf, ewf⟩ : ∃ wf, wA.drew = wf := ⟨_, rfl⟩
 have hbf0 : Below wA.heap.size wA wf := by rw [← ewf]; exact (Below.refl _ _).drew
 have hbf := hb3.trans ((hbA.trans (hbf0.mono hbA.size)).mono hb3.size)
 have HBf := hid (HB3.out.trans (hbf.mono HB3.out.size))
 have HGf := hid (HG2.out.below hbf)
 have HAf := hid (HAV.out.below (hbA.trans (hbf0.mono hbA.size)))
 have HTf := hid (HT2.out.on (hbf.mono (Nat.le_trans hBt HB3.out.size)))
 have h2f := HB2.out.trans (hbf.mono HB2.out.size)
 have HIf := hid (And.intro (HIe.out.1.below h2f) (HIe.out.2.2.1.below h2f))
 obtain ⟨dg, df, dc, rfl, hd⟩ := ownsT_get HDV.out (by show 0 < 1; omega)
 have hd0 : w2.cell? ⟨dg, df, none⟩ = some (.int .i64 0) := hd 0 _ rfl
 have HD0 := hid hd0
 have HS := hid (show ∀ w', Below wf.heap.size wf w' → w'.cell? ⟨w.heap.size + 1 + 1 + 1 + 1, 0, none⟩ = some (.slice (some ⟨w.heap.size, 0, none⟩) 1 1) ∧ w'.cell? ⟨w.heap.size + 1 + 1 + 1 + 1, 1, none⟩ = some (.slice none 0 0) ∧ w'.cell? ⟨w.heap.size + 1 + 1 + 1 + 1, 2, none⟩ = some (.slice (some ⟨w.heap.size + 1, 0, none⟩) 1 1) ∧ w'.cell? ⟨w.heap.size + 1 + 1 + 1 + 1, 3, none⟩ = some (.slice (some ⟨w.heap.size + 1 + 1 + 1, 0, none⟩) 1 1) ∧ w'.cell? ⟨w.heap.size + 1 + 1 + 1 + 1, 4, none⟩ = some (.int .i64 0) ∧ w'.cell? ⟨lb, lo, none⟩ = some (.slice io0 2 ic0) ∧ w'.cell? ⟨lb, lo + 1, none⟩ = some (.slice ao0 2 ac0) ∧ w'.cell? ⟨lb, lo + 2 + 1, none⟩ = some (.slice (some ⟨ab, ao, none⟩) 1 ac) ∧ w'.cell? ⟨ab, ao, none⟩ = some (.int .u64 9223372036854775808) ∧ w'.cell? ⟨dg, df, none⟩ = some (.int .i64 0) ∧ w'.cell? ⟨w3.heap.size, 0, none⟩ = some (.slice ko 3 kc) ∧ w'.cell? ⟨w3.heap.size, 1, none⟩ = some (.slice no 3 nc) from fun w' hC => by
  have hC2 := hbf.trans (hC.mono hbf.size)
  have hC3 := HB2.out.trans (hC2.mono HB2.out.size)
  have nG := (hC2.block _ (Array.getElem?_eq_some_iff.1 HN2.out).1).trans HN2.out
  have nB := ((hbf0.trans (hC.mono hbf0.size)).block _ (Array.getElem?_eq_some_iff.1 nA).1).trans nA
  exact ⟨Lib.cell_of_heap nG 0, Lib.cell_of_heap nG 1, Lib.cell_of_heap nG 2, Lib.cell_of_heap nG 3, Lib.cell_of_heap nG 4, cell_below hC3 HRe.out.1, cell_below hC3 HRe.out.2.1, cell_below hC3 HRe.out.2.2.2.1, cell_below hC3 HRe.out.2.2.2.2, cell_below hC2 HD0.out, Lib.cell_of_heap nB 0, Lib.cell_of_heap nB 1⟩)
 have HH0 := HS.out wf (Below.refl _ _)
 clear hbp hkv hnv hb3 hbA nA hbf0 hbf h2f KB HAV hd hd0 c0 c1 c2 c3 c4
 go_wp2_with fail
 refine region_T 34 (fun w' => w'.cell? ⟨w.heap.size + 1 + 1 + 1 + 1, 0, none⟩ = some (.slice (some ⟨w.heap.size, 0, none⟩) 1 1) ∧ w'.cell? ⟨w.heap.size + 1 + 1 + 1 + 1, 1, none⟩ = some (.slice none 0 0) ∧ w'.cell? ⟨w.heap.size + 1 + 1 + 1 + 1, 2, none⟩ = some (.slice (some ⟨w.heap.size + 1, 0, none⟩) 1 1) ∧ w'.cell? ⟨w.heap.size + 1 + 1 + 1 + 1, 3, none⟩ = some (.slice (some ⟨w.heap.size + 1 + 1 + 1, 0, none⟩) 1 1) ∧ w'.cell? ⟨w.heap.size + 1 + 1 + 1 + 1, 4, none⟩ = some (.int .i64 0) ∧ w'.cell? ⟨lb, lo, none⟩ = some (.slice io0 2 ic0) ∧ w'.cell? ⟨lb, lo + 1, none⟩ = some (.slice ao0 2 ac0) ∧ w'.cell? ⟨lb, lo + 2 + 1, none⟩ = some (.slice (some ⟨ab, ao, none⟩) 1 ac) ∧ w'.cell? ⟨ab, ao, none⟩ = some (.int .u64 9223372036854775808) ∧ w'.cell? ⟨dg, df, none⟩ = some (.int .i64 0) ∧ w'.cell? ⟨w3.heap.size, 0, none⟩ = some (.slice ko 3 kc) ∧ w'.cell? ⟨w3.heap.size, 1, none⟩ = some (.slice no 3 nc)) (by kernel_rfl) (by rw [ewf]; exact HH0) (fun inv hHeld => ?_)
 rw [ewf]
 clear hHeld ewf
 iterate 21
  refine anyT_auto (v := ?_) rfl (by kernel_rfl) (fun _ _ _ h => h) (Or.inl ⟨by rfl, ?_⟩) HH0 inv (fun inv => ?_)
  rotate_left
  ·intro w hSw
   try dsimp only at hSw
   go_simp
   try with_reducible rfl
  simp only [Act.put, sjA, sj0, sjS]
 refine anyT_next (i := 21) (o := { dst := some 65, op := Go.Op.call { callee := Go.Callee.value (Go.Operand.func 24), args := #[Go.Operand.tmp 63, Go.Operand.tmp 64], argTypes := #[27, 55] }, type := 30, pos := "law.go:25", after := #[{ on := 19, ground := Go.Ground.data }, { on := 20, ground := Go.Ground.data }, { on := 18, ground := Go.Ground.chain }, { on := 18, ground := Go.Ground.guard }], guard := some (18, true) }) (by kernel_rfl) rfl (by decide) inv (fun inv K' hK => ?_)
 go_simp
 refine (Ahead_any HGf.out HAf.out HTf.out (Nat.le_trans hBt HBf.out.size)).mono ?_
 rintro e wg hap
 obtain ⟨hbg, ho, hc, rfl⟩ := ex_ahead hap
 have HBg := hid hbg
 have HH1 := HS.out wg hbg
 refine hK.out _ _ HH1 ?_
 clear hK K' HH0
 try simp only [Act.put, sjA, sj0, sjS]
 iterate 8
  refine anyT_auto (v := ?_) rfl (by kernel_rfl) (fun _ _ _ h => h) (Or.inl ⟨by rfl, ?_⟩) HH1 inv (fun inv => ?_)
  rotate_left
  ·intro w hSw
   try dsimp only at hSw
   go_simp
   try with_reducible rfl
  simp only [Act.put, sjA, sj0, sjS]
 refine anyT_next (i := 30) (o := { dst := some 74, op := Go.Op.call { callee := Go.Callee.value (Go.Operand.func 21), args := #[Go.Operand.tmp 70, Go.Operand.tmp 73], argTypes := #[27, 48] }, type := 43, pos := "law.go:25", after := #[{ on := 26, ground := Go.Ground.data }, { on := 29, ground := Go.Ground.data }, { on := 25, ground := Go.Ground.chain }, { on := 25, ground := Go.Ground.guard }], guard := some (25, true) }) (by kernel_rfl) rfl (by decide) inv (fun inv K' hK => ?_)
 go_simp
 refine (Done_any (HGf.out.below HBg.out) X14.ex_valid (HIf.out.1.below HBg.out) (by show (2 : Nat) ≤ _; omega) (HIf.out.2.below HBg.out)).mono ?_
 rintro e wh ⟨dv0, rfl, hbh, hdv0⟩
 rw [show ([((-1 : Int), (0 : Int)), (0, 0)] : List It).length = 2 from rfl, ex_done0] at hdv0
 obtain ⟨zo, zc, rfl⟩ := ownsT_shape hdv0
 have HBh := hid (HBg.out.trans (hbh.mono HBg.out.size))
 have HH2 := HS.out wh HBh.out
 refine hK.out _ _ HH2 ?_
 clear hK K' HH1
 try simp only [Act.put, sjA, sj0, sjS]
 iterate 3
  refine anyT_auto (v := ?_) rfl (by kernel_rfl) (fun _ _ _ h => h) (Or.inl ⟨by rfl, ?_⟩) HH2 inv (fun inv => ?_)
  rotate_left
  ·intro w hSw
   try dsimp only at hSw
   go_simp
   try with_reducible rfl
  simp only [Act.put, sjA, sj0, sjS]
 refine anyT_one (i := 34) (o := { dst := some 0, op := Go.Op.assign (Go.Operand.tmp 77), type := 4, pos := "law.go:25", after := #[{ on := 33, ground := Go.Ground.data }, { on := 30, ground := Go.Ground.chain }, { on := 0, ground := Go.Ground.phase }, { on := 1, ground := Go.Ground.phase }, { on := 2, ground := Go.Ground.phase }, { on := 3, ground := Go.Ground.phase }, { on := 4, ground := Go.Ground.phase }, { on := 5, ground := Go.Ground.phase }, { on := 6, ground := Go.Ground.phase }, { on := 7, ground := Go.Ground.phase }, { on := 8, ground := Go.Ground.phase }, { on := 9, ground := Go.Ground.phase }, { on := 10, ground := Go.Ground.phase }, { on := 11, ground := Go.Ground.phase }, { on := 12, ground := Go.Ground.phase }, { on := 13, ground := Go.Ground.phase }, { on := 14, ground := Go.Ground.phase }, { on := 15, ground := Go.Ground.phase }, { on := 16, ground := Go.Ground.phase }, { on := 17, ground := Go.Ground.phase }, { on := 18, ground := Go.Ground.phase }, { on := 19, ground := Go.Ground.phase }, { on := 20, ground := Go.Ground.phase }, { on := 21, ground := Go.Ground.phase }, { on := 22, ground := Go.Ground.phase }, { on := 23, ground := Go.Ground.phase }, { on := 24, ground := Go.Ground.phase }, { on := 25, ground := Go.Ground.phase }, { on := 26, ground := Go.Ground.phase }, { on := 27, ground := Go.Ground.phase }, { on := 28, ground := Go.Ground.phase }, { on := 29, ground := Go.Ground.phase }, { on := 30, ground := Go.Ground.phase }, { on := 31, ground := Go.Ground.phase }, { on := 32, ground := Go.Ground.phase }, { on := 33, ground := Go.Ground.phase }], guard := none }) (by kernel_rfl) rfl (fun K' hK => ?_)
 go_simp
 refine hK.out _ _ (fun h => absurd h (by decide)) ?_
 clear hK K'
 try simp only [Act.put, sjA, sj0, sjS]
 refine anyT_done (by kernel_rfl) ?_ _
 go_wp2_with fail
 go_ret
 exact ⟨rfl, HBf.out.trans (HBh.out.mono HBf.out.size)⟩
end Go.Proofs.YticmnfmijdgmbaaGreatDoor

/- A grammar that is handed in, as it lies in memory. -/
namespace Go.Proofs.YticmnfmijdgmbaaGreatDoor
open Go Go.RowKit Go.Lib Go.WideShapes Go.ChangeShapes Go.Deep
section
variable {H : Type} {enc : TypeId × Value → H} {P : Program} {w : World} {base : Nat} {spare : Nat → Bool} {held : Bool}
theorem cell_plain {a : Addr} {v : Value} (h : w.cell? (a.add 0) = some v) : ∃ b off, a = ⟨b, off, none⟩ := by
 obtain ⟨b, off, spot⟩ := a
 have hspot : spot = none := by simpa [Addr.add] using World.cell?_spot h
 subst hspot
 exact ⟨b, off, rfl⟩
theorem open_block {t e : TypeId} {c fuel : Nat} {v : Value} {x : DataW H × List MemPlace} (ht : P.underlying t = some (.slice e)) (hc : P.cellsOf e = c) (h0 : 0 < c) (h : DataW.trod enc P w base spare held fuel t [v] = some x) :
  ∃ (a : Option Addr) (len cap : Nat) (V : Nat → Nat → Value), v = .slice a len cap ∧ len ≤ cap ∧ cap ≤ maxLen ∧ (0 < len → ∃ b off, a = some ⟨b, off, none⟩ ∧ ∀ i, i < len → ∀ j, j < c → w.cell? ⟨b, off + i * c + j, none⟩ = some (V i j)) ∧
   (∀ i, i < len → ∃ n y, DataW.trod enc P w base spare held n e ((List.range c).map (V i)) = some y) ∧ (a = none → cap = 0) := by
 rcases open_slice ht h with ⟨hcs, _⟩ | ⟨a, len, cap, m, n, D, Pl, hcs, hb, hl, hm, hmm, _, hx⟩
 ·simp only [List.cons.injEq, and_true] at hcs
  exact ⟨none, 0, 0, fun _ _ => undef, hcs, Nat.le_refl _, Nat.zero_le _, fun h => absurd h (Nat.lt_irrefl 0), fun i hi => absurd hi (Nat.not_lt_zero i), fun _ => rfl⟩
 ·simp only [List.cons.injEq, and_true] at hcs
  have hlm : len ≤ m := by rw [hmm]; split <;> omega
  obtain ⟨V, hV⟩ := choose_lt (α := Nat → Value) (n := len) (p := fun i f => (∀ j, j < c → w.cell? ((a.add (i * c)).add j) = some (f j)) ∧ DataW.trod enc P w base spare held n e ((List.range c).map f) = some (D i, Pl i)) (fun i hi => by
   obtain ⟨cs', h1, h2⟩ := hx i (by omega)
   rw [hc] at h1
   obtain ⟨_, hlen, hcell⟩ := World.cells?_some h1
   refine ⟨fun j => cs'.getD j undef, fun j hj => ?_, ?_⟩
   ·show _ = some (cs'.getD j undef)
    rw [hcell j hj, List.getD_eq_getElem?_getD, List.getElem?_eq_getElem (by omega)]; rfl
   ·have : (List.range c).map (fun j => cs'.getD j undef) = cs' := by
     refine List.ext_getElem (by simp [hlen]) fun j h3 h4 => ?_
     simp [List.getD_eq_getElem?_getD, List.getElem?_eq_getElem h4]
    rw [this]; exact h2)
  refine ⟨some a, len, cap, V, hcs, hl, hm, fun hlt => ?_, fun i hi => ⟨n, _, (hV i hi).2⟩, fun h => (by cases h)⟩
  have := (hV 0 hlt).1 0 h0
  rw [add_add, Nat.zero_mul, Nat.add_zero] at this
  obtain ⟨b, off, rfl⟩ := cell_plain this
  refine ⟨b, off, rfl, fun i hi j hj => ?_⟩
  have := (hV i hi).1 j hj
  rw [add_add, Go.WideShapes.add_plain, ← Nat.add_assoc] at this
  exact this
end
theorem getD_map {α : Type} (f : Nat → α) (n : Nat) (d : α) {i : Nat} (h : i < n) : ((List.range n).map f).getD i d = f i := by
 simp [List.getD_eq_getElem?_getD, h]
section
variable {H : Type} {enc : TypeId × Value → H} {w : World} {base : Nat} {spare : Nat → Bool} {held : Bool}
theorem i64_range {n : Int} (h : (Lit.int .i64 n).wf = true) : -9223372036854775808 ≤ n ∧ n ≤ 9223372036854775807 := by
 simpa [Lit.wf, IntKind.min, IntKind.max, IntKind.signed, IntKind.bits] using h
theorem open_syms {t e : TypeId} {fuel : Nat} {v : Value} {x : DataW H × List MemPlace} (ht : Tryz.prog.underlying t = some (.slice e)) (he : Tryz.prog.underlying e = some (.int .i64)) (hc : Tryz.prog.cellsOf e = 1) (h : DataW.trod enc Tryz.prog w base spare held fuel t [v] = some x) :
  ∃ l a c, v = .slice a l.length c ∧ l.length ≤ c ∧ IntsAt w v l ∧ (a = none → c = 0) := by
 obtain ⟨a, len, cap, V, rfl, hl, hm, hat, hel, hnc⟩ := open_block ht hc (by omega) h
 obtain ⟨f, hf⟩ := choose_lt (α := Int) (n := len) (p := fun i z => V i 0 = .int .i64 z ∧ (Lit.int .i64 z).wf = true) (fun i hi => by
  obtain ⟨n, y, hy⟩ := hel i hi
  obtain ⟨z, hz, _, hw⟩ := DataW.trod_int he hy
  simp only [show (List.range 1).map (V i) = [V i 0] from rfl, List.cons.injEq, and_true] at hz
  exact ⟨z, hz, hw⟩)
 have hlen : ((List.range len).map f).length = len := by simp
 have hm' : cap ≤ 9223372036854775807 := hm
 refine ⟨(List.range len).map f, a, cap, by rw [hlen], by omega, ⟨⟨a, cap, by rw [hlen], by omega, fun h0 => ?_⟩, fun x hx => ?_⟩, hnc⟩
 ·rw [hlen] at h0
  obtain ⟨b, off, rfl, hcell⟩ := hat h0
  refine ⟨b, off, rfl, fun i hi => ?_⟩
  rw [hlen] at hi
  have := hcell i hi 0 (by omega)
  rw [Nat.mul_one, Nat.add_zero, (hf i hi).1] at this
  rw [getD_map f len 0 hi]
  exact this
 ·obtain ⟨i, hi, rfl⟩ := List.mem_map.1 hx
  exact i64_range (hf i (by simpa using hi)).2
set_option maxRecDepth 100000 in
set_option maxHeartbeats 1000000 in
theorem open_grammar {r : Reach} {b0 : Nat} {v : Value} {d : DataW H} {ps : List MemPlace} (hval : Value.okWide Tryz.prog w r b0 27 v) (h : DataW.Trod enc Tryz.prog w base spare held 27 v d ps) :
  ∃ G tv ov sv pv tf rv, GrAt w v G tv ov sv pv tf rv ∧ -9223372036854775808 ≤ G.start ∧ G.start ≤ 9223372036854775807 ∧
   (∀ p ∈ G.prods, (-9223372036854775808 ≤ p.sort ∧ p.sort ≤ 9223372036854775807)) ∧ ∀ n c, pv = .slice none n c → c = 0 := by
 obtain ⟨cs, rfl, hsz⟩ := okWide_struct Tryz.underlying27 hval
 obtain ⟨l⟩ := cs
 have hC : Tryz.prog.cellsOf 27 = 5 := by kernel_rfl
 match l, hsz.trans hC with
 | [tv, ov, sv, pv, st], _ =>
  obtain ⟨fuel, hf⟩ := h
  obtain ⟨xs, n, _, hx, _, hlen, hg⟩ := DataW.trod_struct Tryz.underlying27 hf
  match xs, hlen with
  | [y0, y1, y2, y3, y4], _ =>
   have k0 : DataW.trod enc Tryz.prog w base spare held n 22 [tv] = some y0 := hg 0 _ rfl
   have k1 : DataW.trod enc Tryz.prog w base spare held n 23 [ov] = some y1 := hg 1 _ rfl
   have k2 : DataW.trod enc Tryz.prog w base spare held n 24 [sv] = some y2 := hg 2 _ rfl
   have k3 : DataW.trod enc Tryz.prog w base spare held n 25 [pv] = some y3 := hg 3 _ rfl
   have k4 : DataW.trod enc Tryz.prog w base spare held n 3 [st] = some y4 := hg 4 _ rfl
   obtain ⟨start, hst, _, hsw⟩ := DataW.trod_int Tryz.underlying3 k4
   simp only [List.cons.injEq, and_true] at hst
   subst hst
   obtain ⟨ta, tl, tc, TV, rfl, htl, htm, hta, hte, _⟩ := open_block Tryz.underlying22 (by kernel_rfl : Tryz.prog.cellsOf 105 = 4) (by omega) k0
   obtain ⟨oa, ol, oc, OV, rfl, hol, hom, hoa, hoe, _⟩ := open_block Tryz.underlying23 (by kernel_rfl : Tryz.prog.cellsOf 94 = 2) (by omega) k1
   obtain ⟨sa, sl, sc, SV, rfl, hsl, hsm, hsa, hse, _⟩ := open_block Tryz.underlying24 (by kernel_rfl : Tryz.prog.cellsOf 9 = 1) (by omega) k2
   obtain ⟨pa, pl, pc, PV, rfl, hpl, hpm, hpa, hpe, hpz⟩ := open_block Tryz.underlying25 (by kernel_rfl : Tryz.prog.cellsOf 71 = 4) (by omega) k3
   have htm' : tc ≤ 9223372036854775807 := htm
   have hom' : oc ≤ 9223372036854775807 := hom
   have hsm' : sc ≤ 9223372036854775807 := hsm
   have hpm' : pc ≤ 9223372036854775807 := hpm
   obtain ⟨tn, htn⟩ := choose_lt (α := ByteArray) (n := tl) (p := fun i s => TV i 0 = .string s) (fun i hi => by
    obtain ⟨n, y, hy⟩ := hte i hi
    obtain ⟨xs, n', _, _, _, hl, hg⟩ := DataW.trod_struct Tryz.underlying105 hy
    have hl' : xs.length = 4 := hl
    have k : DataW.trod enc Tryz.prog w base spare held n' 9 [TV i 0] = xs[0]? := hg 0 _ rfl
    rw [List.getElem?_eq_getElem (by omega)] at k
    obtain ⟨s, hs, _⟩ := DataW.trod_string Tryz.underlying9 k
    simp only [List.cons.injEq, and_true] at hs
    exact ⟨s, hs⟩)
   obtain ⟨sn, hsn⟩ := choose_lt (α := ByteArray) (n := sl) (p := fun i s => SV i 0 = .string s) (fun i hi => by
    obtain ⟨n, y, hy⟩ := hse i hi
    obtain ⟨s, hs, _⟩ := DataW.trod_string Tryz.underlying9 hy
    simp only [show (List.range 1).map (SV i) = [SV i 0] from rfl, List.cons.injEq, and_true] at hs
    exact ⟨s, hs⟩)
   obtain ⟨on, hon⟩ := choose_lt (α := Int × Int) (n := ol) (p := fun i q => OV i 0 = .int .i64 q.1 ∧ OV i 1 = .int .i64 q.2) (fun i hi => by
    obtain ⟨n, y, hy⟩ := hoe i hi
    obtain ⟨xs, n', _, _, _, hl, hg⟩ := DataW.trod_array Tryz.underlying94 hy
    have g0 : DataW.trod enc Tryz.prog w base spare held n' 3 [OV i 0] = xs[0]? := hg 0 (by omega)
    have g1 : DataW.trod enc Tryz.prog w base spare held n' 3 [OV i 1] = xs[1]? := hg 1 (by omega)
    rw [List.getElem?_eq_getElem (by omega)] at g0 g1
    obtain ⟨z0, hz0, _⟩ := DataW.trod_int Tryz.underlying3 g0
    obtain ⟨z1, hz1, _⟩ := DataW.trod_int Tryz.underlying3 g1
    simp only [List.cons.injEq, and_true] at hz0 hz1
    exact ⟨(z0, z1), hz0, hz1⟩)
   obtain ⟨pn, hpn⟩ := choose_lt (α := PD) (n := pl) (p := fun i q => PV i 0 = .string q.lab ∧ PV i 1 = .int .i64 q.sort ∧ (Lit.int .i64 q.sort).wf = true ∧ PV i 3 = .int .i64 q.cls ∧ IntsAt w (PV i 2) q.rs ∧ ∃ a c, PV i 2 = .slice a q.rs.length c ∧ q.rs.length ≤ c) (fun i hi => by
    obtain ⟨n, y, hy⟩ := hpe i hi
    obtain ⟨xs, n', _, _, _, hl, hg⟩ := DataW.trod_struct Tryz.underlying71 hy
    have hl' : xs.length = 4 := hl
    have g0 : DataW.trod enc Tryz.prog w base spare held n' 9 [PV i 0] = xs[0]? := hg 0 _ rfl
    have g1 : DataW.trod enc Tryz.prog w base spare held n' 3 [PV i 1] = xs[1]? := hg 1 _ rfl
    have g2 : DataW.trod enc Tryz.prog w base spare held n' 64 [PV i 2] = xs[2]? := hg 2 _ rfl
    have g3 : DataW.trod enc Tryz.prog w base spare held n' 3 [PV i 3] = xs[3]? := hg 3 _ rfl
    rw [List.getElem?_eq_getElem (by omega)] at g0 g1 g2 g3
    obtain ⟨s, hs, _⟩ := DataW.trod_string Tryz.underlying9 g0
    obtain ⟨z1, hz1, _, hw1⟩ := DataW.trod_int Tryz.underlying3 g1
    obtain ⟨rs, a, c, hr1, hr2, hr3, _⟩ := open_syms Tryz.underlying64 Tryz.underlying61 (by kernel_rfl) g2
    obtain ⟨z3, hz3, _⟩ := DataW.trod_int Tryz.underlying3 g3
    simp only [List.cons.injEq, and_true] at hs hz1 hz3
    exact ⟨⟨s, z1, rs, z3⟩, hs, hz1, hw1, hz3, hr3, a, c, hr1, hr2⟩)
   refine ⟨⟨(List.range tl).map tn, (List.range ol).map on, (List.range sl).map sn, (List.range pl).map pn, start⟩, _, _, _, _, TV, fun i => PV i 2, ⟨rfl, ?_, ?_, ?_, ?_, ?_, ?_⟩, (i64_range hsw).1, (i64_range hsw).2, ?_, ?_⟩
   ·refine ⟨ta, tc, by simp, by simp; omega, fun h0 => ?_⟩
    simp only [List.length_map, List.length_range] at h0
    obtain ⟨b, off, rfl, hcell⟩ := hta h0
    refine ⟨b, off, rfl, fun i hi => ?_⟩
    simp only [List.length_map, List.length_range] at hi
    rw [getD_map tn tl _ hi, ← htn i hi]
    exact ⟨hcell i hi 0 (by omega), hcell i hi 1 (by omega), hcell i hi 2 (by omega), hcell i hi 3 (by omega)⟩
   ·refine ⟨oa, oc, by simp, by simp; omega, fun h0 => ?_⟩
    simp only [List.length_map, List.length_range] at h0
    obtain ⟨b, off, rfl, hcell⟩ := hoa h0
    refine ⟨b, off, rfl, fun i hi => ?_⟩
    simp only [List.length_map, List.length_range] at hi
    rw [getD_map on ol _ hi, ← (hon i hi).1, ← (hon i hi).2]
    exact ⟨hcell i hi 0 (by omega), hcell i hi 1 (by omega)⟩
   ·refine ⟨sa, sc, by simp, by simp; omega, fun h0 => ?_⟩
    simp only [List.length_map, List.length_range] at h0
    obtain ⟨b, off, rfl, hcell⟩ := hsa h0
    refine ⟨b, off, rfl, fun i hi => ?_⟩
    simp only [List.length_map, List.length_range] at hi
    rw [getD_map sn sl _ hi, ← hsn i hi]
    have := hcell i hi 0 (by omega)
    rwa [Nat.mul_one] at this
   ·refine ⟨pa, pc, by simp, by simp; omega, fun h0 => ?_⟩
    simp only [List.length_map, List.length_range] at h0
    obtain ⟨b, off, rfl, hcell⟩ := hpa h0
    refine ⟨b, off, rfl, fun i hi => ?_⟩
    simp only [List.length_map, List.length_range] at hi
    rw [getD_map pn pl _ hi]
    obtain ⟨h1, h2, _, h3, _⟩ := hpn i hi
    rw [← h1, ← h2, ← h3]
    exact ⟨hcell i hi 0 (by omega), hcell i hi 1 (by omega), hcell i hi 2 (by omega), hcell i hi 3 (by omega)⟩
   ·intro i hi
    simp only [List.length_map, List.length_range] at hi
    show IntsAt w _ (((List.range pl).map pn).getD i default).rs
    rw [getD_map pn pl _ hi]
    exact (hpn i hi).2.2.2.2.1
   ·intro i hi a n c e
    simp only [List.length_map, List.length_range] at hi
    obtain ⟨a', c', h1, h2⟩ := (hpn i hi).2.2.2.2.2
    rw [h1] at e
    cases e
    exact h2
   ·intro p hp
    obtain ⟨i, hi, rfl⟩ := List.mem_map.1 hp
    exact i64_range (hpn i (by simpa using hi)).2.2.1
   ·intro n c e
    cases e
    exact hpz rfl
end
end Go.Proofs.YticmnfmijdgmbaaGreatDoor

/- Items that are handed in; the table of powers of ten, as a row lists it. -/
namespace Go.Proofs.YticmnfmijdgmbaaGreatDoor
open Go Go.RowKit Go.Lib Go.WideShapes Go.ChangeShapes Go.Deep
open X14 (It)
set_option linter.unusedVariables false
set_option maxRecDepth 100000 in
theorem tab_of_laid {W : World} {L : List (String × DataW Unit)} (hL : laidMetH Tryz.prog L W) (hf : (L.filter fun x => x.1 == "internal/strconv.uint64pow10") = [("internal/strconv.uint64pow10", Lib.tabData .u64 Lib.pow10Tab)]) : Tab W.heap.size W := by
 have h := hL.filter fun x => x.1 == "internal/strconv.uint64pow10"
 rw [hf, MakeChecks.laidMetH_plain _ _ _ (by kernel_rfl)] at h
 exact Lib.tabBelow_of_tabIs (Lib.tabIs_of_head (g := 0) (t := 226) (e := 68) (n := 20) (by kernel_rfl) (by kernel_rfl) Tryz.underlying226 Tryz.underlying68 (by kernel_rfl) (by kernel_rfl) h)
section
variable {H : Type} {enc : TypeId × Value → H} {w : World} {base : Nat} {spare : Nat → Bool} {held : Bool}
end
end Go.Proofs.YticmnfmijdgmbaaGreatDoor
