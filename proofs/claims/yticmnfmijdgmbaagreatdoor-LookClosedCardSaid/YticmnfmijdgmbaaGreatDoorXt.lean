/- The document's example of look holds. -/
import Derived.Test.YticmnfmijdgmbaaGreatDoorYa
import Derived.Test.YticmnfmijdgmbaaGreatDoorXs
namespace Go.Proofs.YticmnfmijdgmbaaGreatDoor
open Go Go.RowKit Go.Lib
open X14 (It exG closeX iterB BuiltOk)
open S13 (u64 bitN top E0 F0 Sub)
open S13.X15 (Pl LeastA askX places cxB)
set_option linter.unusedVariables false
set_option linter.unusedSimpArgs false
def wE (w : World) : World :=
 ((((w.alloc (.cells #[.string ⟨#[97]⟩, .string ⟨#[]⟩, .bool false, .int .i64 0] 105)).alloc (.cells #[.string ⟨#[83]⟩] 9)).alloc (.cells #[.int .i64 0] 61)).alloc
   (.cells #[.string ⟨#[112]⟩, .int .i64 0, .slice (some ⟨w.heap.size + 1 + 1, 0, none⟩) 1 1, .int .i64 0] 71)).alloc
   (.cells #[.slice (some ⟨w.heap.size, 0, none⟩) 1 1, .slice none 0 0, .slice (some ⟨w.heap.size + 1, 0, none⟩) 1 1, .slice (some ⟨w.heap.size + 1 + 1 + 1, 0, none⟩) 1 1, .int .i64 0] 27)
abbrev gE (w : World) : Value := .agg #[.slice (some ⟨w.heap.size, 0, none⟩) 1 1, .slice none 0 0, .slice (some ⟨w.heap.size + 1, 0, none⟩) 1 1, .slice (some ⟨w.heap.size + 1 + 1 + 1, 0, none⟩) 1 1, .int .i64 0]
theorem below_al {B : Nat} {a w : World} (h : Below B a w) (hB : B ≤ w.heap.size) (o : Obj) : Below B a (w.alloc o) ∧ B ≤ (w.alloc o).heap.size := ⟨h.alloc hB o, by simp; omega⟩
theorem wE_below (w : World) : Below w.heap.size w (wE w) := by
 have h1 := below_al (Below.refl w.heap.size w) (Nat.le_refl _) (.cells #[.string ⟨#[97]⟩, .string ⟨#[]⟩, .bool false, .int .i64 0] 105)
 have h2 := below_al h1.1 h1.2 (.cells #[.string ⟨#[83]⟩] 9)
 have h3 := below_al h2.1 h2.2 (.cells #[.int .i64 0] 61)
 have h4 := below_al h3.1 h3.2 (.cells #[.string ⟨#[112]⟩, .int .i64 0, .slice (some ⟨w.heap.size + 1 + 1, 0, none⟩) 1 1, .int .i64 0] 71)
 exact (below_al h4.1 h4.2 _).1
theorem heap_al {w : World} {o o' : Obj} {g : Nat} (h : w.heap[g]? = some o) : (w.alloc o').heap[g]? = some o := (Below.heap_alloc w o' g (Array.getElem?_eq_some_iff.1 h).1).trans h
theorem new_at (w : World) (o : Obj) {g : Nat} (h : w.heap.size = g) : (w.alloc o).heap[g]? = some o := by rw [← h]; exact new_block w o
theorem wE_0 (w : World) : (wE w).heap[w.heap.size]? = some (.cells #[.string ⟨#[97]⟩, .string ⟨#[]⟩, .bool false, .int .i64 0] 105) := heap_al (heap_al (heap_al (heap_al (new_block w _))))
theorem wE_1 (w : World) : (wE w).heap[w.heap.size + 1]? = some (.cells #[.string ⟨#[83]⟩] 9) := heap_al (heap_al (heap_al (new_at _ _ (by simp))))
theorem wE_2 (w : World) : (wE w).heap[w.heap.size + 1 + 1]? = some (.cells #[.int .i64 0] 61) := heap_al (heap_al (new_at _ _ (by simp)))
theorem wE_3 (w : World) : (wE w).heap[w.heap.size + 1 + 1 + 1]? = some (.cells #[.string ⟨#[112]⟩, .int .i64 0, .slice (some ⟨w.heap.size + 1 + 1, 0, none⟩) 1 1, .int .i64 0] 71) := heap_al (new_at _ _ (by simp))
theorem wE_4 (w : World) : (wE w).heap[w.heap.size + 1 + 1 + 1 + 1]? = some (.cells #[.slice (some ⟨w.heap.size, 0, none⟩) 1 1, .slice none 0 0, .slice (some ⟨w.heap.size + 1, 0, none⟩) 1 1, .slice (some ⟨w.heap.size + 1 + 1 + 1, 0, none⟩) 1 1, .int .i64 0] 27) := new_at _ _ (by simp)
theorem gE_at (w : World) : Gram (wE w) (gE w) exG := by
 refine ⟨.slice (some ⟨w.heap.size, 0, none⟩) 1 1, .slice none 0 0, .slice (some ⟨w.heap.size + 1, 0, none⟩) 1 1, .slice (some ⟨w.heap.size + 1 + 1 + 1, 0, none⟩) 1 1, fun _ j => if j = 1 then .string ⟨#[]⟩ else if j = 2 then .bool false else .int .i64 0, fun _ => .slice (some ⟨w.heap.size + 1 + 1, 0, none⟩) 1 1, rfl, ?_, ?_, ?_, ?_, ?_, ?_⟩
 ·refine ⟨_, _, rfl, by decide, fun _ => ⟨_, 0, rfl, fun i hi => ?_⟩⟩
  obtain rfl : i = 0 := by have : i < 1 := hi; omega
  exact ⟨Lib.cell_of_heap (wE_0 w) 0, Lib.cell_of_heap (wE_0 w) 1, Lib.cell_of_heap (wE_0 w) 2, Lib.cell_of_heap (wE_0 w) 3⟩
 ·exact ⟨_, _, rfl, by decide, fun h => absurd h (by decide)⟩
 ·refine ⟨_, _, rfl, by decide, fun _ => ⟨_, 0, rfl, fun i hi => ?_⟩⟩
  obtain rfl : i = 0 := by have : i < 1 := hi; omega
  exact Lib.cell_of_heap (wE_1 w) 0
 ·refine ⟨_, _, rfl, by decide, fun _ => ⟨_, 0, rfl, fun i hi => ?_⟩⟩
  obtain rfl : i = 0 := by have : i < 1 := hi; omega
  exact ⟨Lib.cell_of_heap (wE_3 w) 0, Lib.cell_of_heap (wE_3 w) 1, Lib.cell_of_heap (wE_3 w) 2, Lib.cell_of_heap (wE_3 w) 3⟩
 ·intro i hi
  obtain rfl : i = 0 := by have : i < 1 := hi; omega
  refine ⟨⟨_, _, rfl, by decide, fun _ => ⟨_, 0, rfl, fun i hi => ?_⟩⟩, by decide⟩
  obtain rfl : i = 0 := by have : i < 1 := hi; omega
  exact Lib.cell_of_heap (wE_2 w) 0
 ·intro i hi a n c e
  cases e
  decide
theorem ex_all {w w' : World} {e : Ending} (h : AllP exG w e w') : Below w.heap.size w w' ∧ ∃ v A, e = .returned (.tuple #[v, .int .i64 0]) ∧ A (1, ((0 : Int), (1 : Int))) = bitN 63 ∧ LookAt w' v 3 (cxB exG 3 (E0 exG) (F0 exG)).C A := by
 obtain ⟨hb, h | ⟨_, n, h | ⟨h, v, A, e1, h2, h3⟩⟩⟩ := h
 ·rw [X14.ex_valid] at h
  cases h.1
 ·exact (X14.Built.not X14.ex_ok h.1).elim
 ·obtain rfl := X14.Built.one h X14.ex_ok
  exact ⟨hb, v, A, e1, S13.X15.ex_A h2, h3⟩
theorem ex_ahead {w w' : World} {e : Ending} (h : AheadP exG [[(-1, 0)], [(0, 1)], [(-1, 1)]] [[1, 2], [-1, -1], [-1, -1]] w e w') : Below w.heap.size w w' ∧ ∃ o c, e = .returned (.slice o 3 c) := by
 obtain ⟨hb, ⟨h, _⟩ | ⟨_, n, h, _, _, v, A, e1, h2, h3⟩⟩ := h
 ·rcases h with h | ⟨_, ⟨n, h⟩ | ⟨n, h, hn⟩⟩
  ·rw [X14.ex_valid] at h; cases h
  ·exact (X14.Built.not X14.ex_ok h).elim
  ·obtain rfl := X14.Built.one h X14.ex_ok
   exact absurd ⟨X14.ex_i3.1.symm, X14.ex_i3.2.symm⟩ hn
 ·obtain rfl := X14.Built.one h X14.ex_ok
  obtain ⟨o, c, rfl, _⟩ := h3
  exact ⟨hb, o, c, e1⟩
theorem ex_done1 (x : Nat) (hx : x ≠ 0) : doneN exG [((0 : Int), (1 : Int))] [x] 1 = [0] := by
 have h : doneB exG [((0 : Int), (1 : Int))] [x] 0 = true := by
  unfold doneB
  refine decide_eq_true ⟨by simp, hx, ?_, ?_⟩
  ·rw [X14.ex_c1]; simp
  ·decide
 rw [doneN_yes h]
 rfl
theorem ex_done0 (us : List Nat) : doneN exG [((-1 : Int), (0 : Int)), (0, 0)] us 2 = [] := by
 have h0 : doneB exG [((-1 : Int), (0 : Int)), (0, 0)] us 0 = false := by
  unfold doneB
  refine decide_eq_false fun h => ?_
  have := h.2.2.2
  revert this; decide
 have h1 : doneB exG [((-1 : Int), (0 : Int)), (0, 0)] us 1 = false := by
  unfold doneB
  refine decide_eq_false fun h => ?_
  have := h.2.2.2
  revert this; decide
 rw [doneN_no h1, doneN_no h0]
 rfl
theorem U64s.below {w w' : World} {v : Value} {us : List Nat} (h : U64s w v us) (hb : Below w.heap.size w w') : U64s w' v us := RowAt.mono h fun _ _ _ h => cell_below hb h
theorem ex_rows {w : World} {v : Value} {A : Pl → Nat} (h : LookAt w v 3 (cxB exG 3 (E0 exG) (F0 exG)).C A) (hA : A (1, ((0 : Int), (1 : Int))) = bitN 63) : ∃ lb lo lc io0 ic0 ao0 ac0 io1 ic1 ab ao ac, v = .slice (some ⟨lb, lo, none⟩) 3 lc ∧ w.cell? ⟨lb, lo, none⟩ = some (.slice io0 2 ic0) ∧ w.cell? ⟨lb, lo + 1, none⟩ = some (.slice ao0 2 ac0) ∧
  w.cell? ⟨lb, lo + 2, none⟩ = some (.slice io1 1 ic1) ∧ w.cell? ⟨lb, lo + 2 + 1, none⟩ = some (.slice (some ⟨ab, ao, none⟩) 1 ac) ∧ w.cell? ⟨ab, ao, none⟩ = some (.int .u64 9223372036854775808) ∧ ItemsAt w (.slice io0 2 ic0) [((-1 : Int), (0 : Int)), (0, 0)] ∧ ItemsAt w (.slice io1 1 ic1) [((0 : Int), (1 : Int))] ∧
  U64s w (.slice ao0 2 ac0) ([((-1 : Int), (0 : Int)), (0, 0)].map fun x => A (0, x)) ∧ U64s w (.slice (some ⟨ab, ao, none⟩) 1 ac) [9223372036854775808] := by
 obtain ⟨o, lc, rfl, _, h⟩ := h
 obtain ⟨lb, lo, rfl, h2⟩ := h (by omega)
 obtain ⟨iv0, av0, a1, a2, a3, a4⟩ := h2 0 (by omega)
 obtain ⟨iv1, av1, b1, b2, b3, b4⟩ := h2 1 (by omega)
 rw [S13.X15.ex_C (by omega)] at a3 a4 b3 b4
 have b4' : U64s w av1 [9223372036854775808] := by
  have : ([[((-1 : Int), (0 : Int)), (0, 0)], [(0, 1)], [(-1, 1)]].getD 1 []).map (fun x => A (1, x)) = [9223372036854775808] := by
   show [A (1, ((0 : Int), (1 : Int)))] = _
   rw [hA]
   rfl
  rw [this] at b4
  exact b4
 obtain ⟨io0, ic0, rfl, _⟩ := id a3
 obtain ⟨io1, ic1, rfl, _⟩ := id b3
 obtain ⟨ao0, ac0, rfl, _⟩ := id a4
 obtain ⟨ao1, ac1, rfl, _, hx⟩ := id b4'
 obtain ⟨ab, ao, rfl, hx2⟩ := hx (by simp)
 exact ⟨lb, lo, lc, io0, ic0, ao0, ac0, io1, ic1, ab, ao, ac1, rfl, by simpa using a1, by simpa using a2, by simpa using b1, by simpa using b2, hx2 0 (by simp), a3, b3, a4, b4'⟩
theorem ownsT_shape {w : World} {B sz n : Nat} {v : Value} {xs : List Value} (h : ownsT w B sz v n xs) : ∃ o c, v = .slice o n c := by
 obtain ⟨_, ⟨rfl, rfl⟩ | ⟨g, off, cap, rfl, _⟩⟩ := h
 ·exact ⟨_, _, rfl⟩
 ·exact ⟨_, _, rfl⟩
theorem ownsT_get {w : World} {B sz n : Nat} {v : Value} {xs : List Value} (h : ownsT w B sz v n xs) (h0 : 0 < n) : ∃ g off c, v = .slice (some ⟨g, off, none⟩) n c ∧ ∀ j u, xs[j]? = some u → w.cell? ⟨g, off + j, none⟩ = some u := by
 obtain ⟨_, ⟨rfl, rfl⟩ | ⟨g, off, cap, rfl, _, _, _, _, h1, _⟩⟩ := h
 ·omega
 ·exact ⟨_, _, _, rfl, h1⟩
set_option maxRecDepth 100000 in
set_option maxHeartbeats 8000000 in
theorem works_any {Bt : Nat} (w : World) (ht : Tab Bt w) (hBt : Bt ≤ w.heap.size) : Calls Tryz.prog 15 #[] w fun e w' => e = .returned (.bool true) ∧ Below w.heap.size w w' := by
 have hB := wE_below w
 have n4 := wE_4 w
 have HG0 := hid (gE_at w)
 have HT0 := hid (ht.on (hB.mono hBt))
 unfold gE at HG0
 obtain ⟨w0, hw0⟩ : ∃ w0, w0 = wE w := ⟨_, rfl⟩
 rw [← hw0] at hB n4 HG0 HT0
 have c0 : w0.cell? ⟨w.heap.size + 1 + 1 + 1 + 1, 0, none⟩ = some (.slice (some ⟨w.heap.size, 0, none⟩) 1 1) := Lib.cell_of_heap n4 0
 have c1 : w0.cell? ⟨w.heap.size + 1 + 1 + 1 + 1, 1, none⟩ = some (.slice none 0 0) := Lib.cell_of_heap n4 1
 have c2 : w0.cell? ⟨w.heap.size + 1 + 1 + 1 + 1, 2, none⟩ = some (.slice (some ⟨w.heap.size + 1, 0, none⟩) 1 1) := Lib.cell_of_heap n4 2
 have c3 : w0.cell? ⟨w.heap.size + 1 + 1 + 1 + 1, 3, none⟩ = some (.slice (some ⟨w.heap.size + 1 + 1 + 1, 0, none⟩) 1 1) := Lib.cell_of_heap n4 3
 have c4 : w0.cell? ⟨w.heap.size + 1 + 1 + 1 + 1, 4, none⟩ = some (.int .i64 0) := Lib.cell_of_heap n4 4
 have HB0 := hid hB
 have hsz := hB.size
 have HN0 := hid n4
 have KB := hid (All_any HG0.out HT0.out (Nat.le_trans hBt hsz))
 clear hB n4
 go_enter Tryz.func15, Tryz.ntmps15
 go_upto_region 2 with fail
 unfold wE at hw0
 rw [← hw0]
 clear hw0
 go_wp2_with fail
 refine KB.out.mono ?_
 rintro e w1 hbp
 obtain ⟨hb1, v, A, rfl, hA, hrow⟩ := ex_all hbp
 obtain ⟨lb, lo, lc, io0, ic0, ao0, ac0, io1, ic1, ab, ao, ac, rfl, r0, r1, r2, r3, r4, HI0, HI1, HU0, HU1⟩ := ex_rows hrow hA
 have HI0 := hid HI0
 have HI1 := hid HI1
 have HU0 := hid HU0
 have HU1 := hid HU1
 have HR := hid (And.intro r0 (And.intro r1 (And.intro r2 (And.intro r3 r4))))
 have HB1 := hid (HB0.out.trans (hb1.mono hsz))
 have HG1 := hid (HG0.out.below hb1)
 have HN1 := hid ((hb1.block _ (Array.getElem?_eq_some_iff.1 HN0.out).1).trans HN0.out)
 clear hbp hrow hA KB c0 c1 c2 c3 c4 hb1
 have c0 : w1.cell? ⟨w.heap.size + 1 + 1 + 1 + 1, 0, none⟩ = some (.slice (some ⟨w.heap.size, 0, none⟩) 1 1) := Lib.cell_of_heap HN1.out 0
 have c1 : w1.cell? ⟨w.heap.size + 1 + 1 + 1 + 1, 1, none⟩ = some (.slice none 0 0) := Lib.cell_of_heap HN1.out 1
 have c2 : w1.cell? ⟨w.heap.size + 1 + 1 + 1 + 1, 2, none⟩ = some (.slice (some ⟨w.heap.size + 1, 0, none⟩) 1 1) := Lib.cell_of_heap HN1.out 2
 have c3 : w1.cell? ⟨w.heap.size + 1 + 1 + 1 + 1, 3, none⟩ = some (.slice (some ⟨w.heap.size + 1 + 1 + 1, 0, none⟩) 1 1) := Lib.cell_of_heap HN1.out 3
 have c4 : w1.cell? ⟨w.heap.size + 1 + 1 + 1 + 1, 4, none⟩ = some (.int .i64 0) := Lib.cell_of_heap HN1.out 4
 obtain ⟨we, ewe⟩ : ∃ we, w1.drew = we := ⟨_, rfl⟩
 have hbe : Below w1.heap.size w1 we := by rw [← ewe]; exact (Below.refl _ _).drew
 have HBe := hid (HB1.out.trans (hbe.mono HB1.out.size))
 have HGe := hid (HG1.out.below hbe)
 have HNe := hid ((hbe.block _ (Array.getElem?_eq_some_iff.1 HN1.out).1).trans HN1.out)
 have HRe := hid (And.intro (cell_below hbe HR.out.1) (And.intro (cell_below hbe HR.out.2.1) (And.intro (cell_below hbe HR.out.2.2.1) (And.intro (cell_below hbe HR.out.2.2.2.1) (cell_below hbe HR.out.2.2.2.2)))))
 have HIe := hid (And.intro (HI0.out.below hbe) (And.intro (HI1.out.below hbe) (And.intro (HU0.out.below hbe) (HU1.out.below hbe))))
 have HS := hid (show ∀ w', Below we.heap.size we w' → w'.cell? ⟨w.heap.size + 1 + 1 + 1 + 1, 0, none⟩ = some (.slice (some ⟨w.heap.size, 0, none⟩) 1 1) ∧ w'.cell? ⟨w.heap.size + 1 + 1 + 1 + 1, 1, none⟩ = some (.slice none 0 0) ∧ w'.cell? ⟨w.heap.size + 1 + 1 + 1 + 1, 2, none⟩ = some (.slice (some ⟨w.heap.size + 1, 0, none⟩) 1 1) ∧ w'.cell? ⟨w.heap.size + 1 + 1 + 1 + 1, 3, none⟩ = some (.slice (some ⟨w.heap.size + 1 + 1 + 1, 0, none⟩) 1 1) ∧ w'.cell? ⟨w.heap.size + 1 + 1 + 1 + 1, 4, none⟩ = some (.int .i64 0) ∧ w'.cell? ⟨lb, lo + 2, none⟩ = some (.slice io1 1 ic1) ∧ w'.cell? ⟨lb, lo + 2 + 1, none⟩ = some (.slice (some ⟨ab, ao, none⟩) 1 ac) from fun w' hC => by
  have nG := (hC.block _ (Array.getElem?_eq_some_iff.1 HNe.out).1).trans HNe.out
  exact ⟨Lib.cell_of_heap nG 0, Lib.cell_of_heap nG 1, Lib.cell_of_heap nG 2, Lib.cell_of_heap nG 3, Lib.cell_of_heap nG 4, cell_below hC HRe.out.2.2.1, cell_below hC HRe.out.2.2.2.1⟩)
 have HH0 := HS.out we (Below.refl _ _)
 clear hbe r0 r1 r3 r4 HI0 HI1 HU0 HU1 HR
 go_wp2_with fail
 refine region_T 5 (fun w' => w'.cell? ⟨w.heap.size + 1 + 1 + 1 + 1, 0, none⟩ = some (.slice (some ⟨w.heap.size, 0, none⟩) 1 1) ∧ w'.cell? ⟨w.heap.size + 1 + 1 + 1 + 1, 1, none⟩ = some (.slice none 0 0) ∧ w'.cell? ⟨w.heap.size + 1 + 1 + 1 + 1, 2, none⟩ = some (.slice (some ⟨w.heap.size + 1, 0, none⟩) 1 1) ∧ w'.cell? ⟨w.heap.size + 1 + 1 + 1 + 1, 3, none⟩ = some (.slice (some ⟨w.heap.size + 1 + 1 + 1, 0, none⟩) 1 1) ∧ w'.cell? ⟨w.heap.size + 1 + 1 + 1 + 1, 4, none⟩ = some (.int .i64 0) ∧ w'.cell? ⟨lb, lo + 2, none⟩ = some (.slice io1 1 ic1) ∧ w'.cell? ⟨lb, lo + 2 + 1, none⟩ = some (.slice (some ⟨ab, ao, none⟩) 1 ac)) (by kernel_rfl) (by rw [ewe]; exact HH0) (fun inv hHeld => ?_)
 rw [ewe]
 clear hHeld ewe
 refine anyT_take (i := 0) (oi := { dst := some 34, op := Go.Op.load 27 (Go.Operand.tmp 1), type := 27, pos := "law.go:23", after := #[], guard := none }) (v := ?_) rfl (by kernel_rfl) (by kernel_rfl) (by kernel_rfl) (by decide) (by decide) (by kernel_rfl) (by kernel_rfl) (fun _ _ _ h => h) (Or.inl ⟨by rfl, ?_⟩) HH0 inv (fun inv => ?_)
 rotate_left
 ·intro w hSw
  try dsimp only at hSw
  go_simp
  try with_reducible rfl
 simp only [Act.put, List.setIfInBounds_toArray, List.set_cons_zero, List.set_cons_succ]
 refine anyT_take (i := 1) (oi := { dst := some 35, op := Go.Op.move (Go.Operand.tmp 2), type := 30, pos := "law.go:23", after := #[], guard := none }) (v := ?_) rfl (by kernel_rfl) (by kernel_rfl) (by kernel_rfl) (by decide) (by decide) (by kernel_rfl) (by kernel_rfl) (fun _ _ _ h => h) (Or.inl ⟨by rfl, ?_⟩) HH0 inv (fun inv => ?_)
 rotate_left
 ·intro w hSw
  try dsimp only at hSw
  go_simp
  try with_reducible rfl
 simp only [Act.put, List.setIfInBounds_toArray, List.set_cons_zero, List.set_cons_succ]
 refine anyT_take (i := 2) (oi := { dst := some 36, op := Go.Op.indexAddr 30 (Go.Operand.tmp 35) (Go.Operand.const (Go.Value.int Go.IntKind.i64 1)), type := 0, pos := "law.go:23", after := #[{ on := 1, ground := Go.Ground.data }], guard := none }) (v := ?_) rfl (by kernel_rfl) (by kernel_rfl) (by kernel_rfl) (by decide) (by decide) (by kernel_rfl) (by kernel_rfl) (fun _ _ _ h => h) (Or.inl ⟨by rfl, ?_⟩) HH0 inv (fun inv => ?_)
 rotate_left
 ·intro w hSw
  try dsimp only at hSw
  go_simp
  try with_reducible rfl
 simp only [Act.put, List.setIfInBounds_toArray, List.set_cons_zero, List.set_cons_succ]
 refine anyT_take (i := 3) (oi := { dst := some 37, op := Go.Op.load 48 (Go.Operand.tmp 36), type := 48, pos := "law.go:23", after := #[{ on := 2, ground := Go.Ground.data }], guard := none }) (v := ?_) rfl (by kernel_rfl) (by kernel_rfl) (by kernel_rfl) (by decide) (by decide) (by kernel_rfl) (by kernel_rfl) (fun _ _ _ h => h) (Or.inl ⟨by rfl, ?_⟩) HH0 inv (fun inv => ?_)
 rotate_left
 ·intro w hSw
  try dsimp only at hSw
  go_simp
  try with_reducible rfl
 simp only [Act.put, List.setIfInBounds_toArray, List.set_cons_zero, List.set_cons_succ]
 refine anyT_next (i := 4) (o := { dst := some 38, op := Go.Op.call { callee := Go.Callee.value (Go.Operand.func 21), args := #[Go.Operand.tmp 34, Go.Operand.tmp 37], argTypes := #[27, 48] }, type := 43, pos := "law.go:23", after := #[{ on := 0, ground := Go.Ground.data }, { on := 3, ground := Go.Ground.data }], guard := none }) (by kernel_rfl) rfl (by decide) inv (fun inv K' hK => ?_)
 go_simp
 refine (Done_any HGe.out X14.ex_valid HIe.out.2.1 (by show (1 : Nat) ≤ _; omega) HIe.out.2.2.2).mono ?_
 rintro e w2 ⟨dv, rfl, hb2, hdv⟩
 rw [show ([((0 : Int), (1 : Int))] : List It).length = 1 from rfl, ex_done1 _ (by decide)] at hdv
 have HDV := hid hdv
 have HB2 := hid hb2
 have HH1 := HS.out w2 hb2
 refine hK.out _ _ HH1 ?_
 clear hK K' HH0
 try simp only [Act.put, List.setIfInBounds_toArray, List.set_cons_zero, List.set_cons_succ]
 refine anyT_one (i := 5) (o := { dst := some 4, op := Go.Op.assign (Go.Operand.tmp 38), type := 43, pos := "law.go:23", after := #[{ on := 4, ground := Go.Ground.data }, { on := 4, ground := Go.Ground.chain }, { on := 0, ground := Go.Ground.phase }, { on := 1, ground := Go.Ground.phase }, { on := 2, ground := Go.Ground.phase }, { on := 3, ground := Go.Ground.phase }, { on := 4, ground := Go.Ground.phase }], guard := none }) (by kernel_rfl) rfl (fun K' hK => ?_)
 go_simp
 refine hK.out _ _ (fun h => absurd h (by decide)) ?_
 clear hK K'
 try simp only [Act.put, List.setIfInBounds_toArray, List.set_cons_zero, List.set_cons_succ]
 refine anyT_done (by kernel_rfl) ?_ _
 have HB3 := hid (HBe.out.trans (HB2.out.mono HBe.out.size))
 have HG2 := hid (HGe.out.below HB2.out)
 have HN2 := hid ((HB2.out.block _ (Array.getElem?_eq_some_iff.1 HNe.out).1).trans HNe.out)
 have HT2 := hid (ht.on (HB3.out.mono hBt))
 have KB := hid (Build_any HG2.out HT2.out (Nat.le_trans hBt HB3.out.size))
 clear HS HH1 c0 c1 c2 c3 c4
 have c0 : w2.cell? ⟨w.heap.size + 1 + 1 + 1 + 1, 0, none⟩ = some (.slice (some ⟨w.heap.size, 0, none⟩) 1 1) := Lib.cell_of_heap HN2.out 0
 have c1 : w2.cell? ⟨w.heap.size + 1 + 1 + 1 + 1, 1, none⟩ = some (.slice none 0 0) := Lib.cell_of_heap HN2.out 1
 have c2 : w2.cell? ⟨w.heap.size + 1 + 1 + 1 + 1, 2, none⟩ = some (.slice (some ⟨w.heap.size + 1, 0, none⟩) 1 1) := Lib.cell_of_heap HN2.out 2
 have c3 : w2.cell? ⟨w.heap.size + 1 + 1 + 1 + 1, 3, none⟩ = some (.slice (some ⟨w.heap.size + 1 + 1 + 1, 0, none⟩) 1 1) := Lib.cell_of_heap HN2.out 3
 have c4 : w2.cell? ⟨w.heap.size + 1 + 1 + 1 + 1, 4, none⟩ = some (.int .i64 0) := Lib.cell_of_heap HN2.out 4
 go_wp2_with fail
 refine KB.out.mono ?_
 rintro e w3 hbp
 obtain ⟨hb3, av, rfl, hav⟩ := ex_build hbp
 have HAV := hid hav
 obtain ⟨kv, nv, rfl, hkv, hnv⟩ := hav
 obtain ⟨ko, kc, rfl, _⟩ := hkv.len
 obtain ⟨no, nc, rfl, _⟩ := hnv.len
 obtain ⟨wA, eA⟩ : ∃ wA, w3.alloc (.cells #[.slice ko 3 kc, .slice no 3 nc] 55) = wA := ⟨_, rfl⟩
 have hbA : Below w3.heap.size w3 wA := by rw [← eA]; exact (Below.refl _ _).alloc (Nat.le_refl _) _
 have nA : wA.heap[w3.heap.size]? = some (.cells #[.slice ko 3 kc, .slice no 3 nc] 55 (0, 0)) := by rw [← eA]; exact new_block _ _
 obtain ⟨wf, ewf⟩ : ∃ wf, wA.drew = wf := ⟨_, rfl⟩
 have hbf0 : Below wA.heap.size wA wf := by rw [← ewf]; exact (Below.refl _ _).drew
 have hbf := hb3.trans ((hbA.trans (hbf0.mono hbA.size)).mono hb3.size)
 have HBf := hid (HB3.out.trans (hbf.mono HB3.out.size))
 have HGf := hid (HG2.out.below hbf)
 have HAf := hid (HAV.out.below (hbA.trans (hbf0.mono hbA.size)))
 have HTf := hid (HT2.out.on (hbf.mono (Nat.le_trans hBt HB3.out.size)))
 have h2f := HB2.out.trans (hbf.mono HB2.out.size)
 have HIf := hid (And.intro (HIe.out.1.below h2f) (HIe.out.2.2.1.below h2f))
 obtain ⟨dg, df, dc, rfl, hd⟩ := ownsT_get HDV.out (by show 0 < 1; omega)
 have hd0 : w2.cell? ⟨dg, df, none⟩ = some (.int .i64 0) := hd 0 _ rfl
 have HD0 := hid hd0
 have HS := hid (show ∀ w', Below wf.heap.size wf w' → w'.cell? ⟨w.heap.size + 1 + 1 + 1 + 1, 0, none⟩ = some (.slice (some ⟨w.heap.size, 0, none⟩) 1 1) ∧ w'.cell? ⟨w.heap.size + 1 + 1 + 1 + 1, 1, none⟩ = some (.slice none 0 0) ∧ w'.cell? ⟨w.heap.size + 1 + 1 + 1 + 1, 2, none⟩ = some (.slice (some ⟨w.heap.size + 1, 0, none⟩) 1 1) ∧ w'.cell? ⟨w.heap.size + 1 + 1 + 1 + 1, 3, none⟩ = some (.slice (some ⟨w.heap.size + 1 + 1 + 1, 0, none⟩) 1 1) ∧ w'.cell? ⟨w.heap.size + 1 + 1 + 1 + 1, 4, none⟩ = some (.int .i64 0) ∧ w'.cell? ⟨lb, lo, none⟩ = some (.slice io0 2 ic0) ∧ w'.cell? ⟨lb, lo + 1, none⟩ = some (.slice ao0 2 ac0) ∧ w'.cell? ⟨lb, lo + 2 + 1, none⟩ = some (.slice (some ⟨ab, ao, none⟩) 1 ac) ∧ w'.cell? ⟨ab, ao, none⟩ = some (.int .u64 9223372036854775808) ∧ w'.cell? ⟨dg, df, none⟩ = some (.int .i64 0) ∧ w'.cell? ⟨w3.heap.size, 0, none⟩ = some (.slice ko 3 kc) ∧ w'.cell? ⟨w3.heap.size, 1, none⟩ = some (.slice no 3 nc) from fun w' hC => by
  have hC2 := hbf.trans (hC.mono hbf.size)
  have hC3 := HB2.out.trans (hC2.mono HB2.out.size)
  have nG := (hC2.block _ (Array.getElem?_eq_some_iff.1 HN2.out).1).trans HN2.out
  have nB := ((hbf0.trans (hC.mono hbf0.size)).block _ (Array.getElem?_eq_some_iff.1 nA).1).trans nA
  exact ⟨Lib.cell_of_heap nG 0, Lib.cell_of_heap nG 1, Lib.cell_of_heap nG 2, Lib.cell_of_heap nG 3, Lib.cell_of_heap nG 4, cell_below hC3 HRe.out.1, cell_below hC3 HRe.out.2.1, cell_below hC3 HRe.out.2.2.2.1, cell_below hC3 HRe.out.2.2.2.2, cell_below hC2 HD0.out, Lib.cell_of_heap nB 0, Lib.cell_of_heap nB 1⟩)
 have HH0 := HS.out wf (Below.refl _ _)
 clear hbp hkv hnv hb3 hbA nA hbf0 hbf h2f KB HAV hd hd0 c0 c1 c2 c3 c4
 go_wp2_with fail
 refine region_T 34 (fun w' => w'.cell? ⟨w.heap.size + 1 + 1 + 1 + 1, 0, none⟩ = some (.slice (some ⟨w.heap.size, 0, none⟩) 1 1) ∧ w'.cell? ⟨w.heap.size + 1 + 1 + 1 + 1, 1, none⟩ = some (.slice none 0 0) ∧ w'.cell? ⟨w.heap.size + 1 + 1 + 1 + 1, 2, none⟩ = some (.slice (some ⟨w.heap.size + 1, 0, none⟩) 1 1) ∧ w'.cell? ⟨w.heap.size + 1 + 1 + 1 + 1, 3, none⟩ = some (.slice (some ⟨w.heap.size + 1 + 1 + 1, 0, none⟩) 1 1) ∧ w'.cell? ⟨w.heap.size + 1 + 1 + 1 + 1, 4, none⟩ = some (.int .i64 0) ∧ w'.cell? ⟨lb, lo, none⟩ = some (.slice io0 2 ic0) ∧ w'.cell? ⟨lb, lo + 1, none⟩ = some (.slice ao0 2 ac0) ∧ w'.cell? ⟨lb, lo + 2 + 1, none⟩ = some (.slice (some ⟨ab, ao, none⟩) 1 ac) ∧ w'.cell? ⟨ab, ao, none⟩ = some (.int .u64 9223372036854775808) ∧ w'.cell? ⟨dg, df, none⟩ = some (.int .i64 0) ∧ w'.cell? ⟨w3.heap.size, 0, none⟩ = some (.slice ko 3 kc) ∧ w'.cell? ⟨w3.heap.size, 1, none⟩ = some (.slice no 3 nc)) (by kernel_rfl) (by rw [ewf]; exact HH0) (fun inv hHeld => ?_)
 rw [ewf]
 clear hHeld ewf
 refine anyT_take (i := 0) (oi := { dst := some 44, op := Go.Op.move (Go.Operand.tmp 2), type := 30, pos := "law.go:25", after := #[], guard := none }) (v := ?_) rfl (by kernel_rfl) (by kernel_rfl) (by kernel_rfl) (by decide) (by decide) (by kernel_rfl) (by kernel_rfl) (fun _ _ _ h => h) (Or.inl ⟨by rfl, ?_⟩) HH0 inv (fun inv => ?_)
 rotate_left
 ·intro w hSw
  try dsimp only at hSw
  go_simp
  try with_reducible rfl
 simp only [Act.put, List.setIfInBounds_toArray, List.set_cons_zero, List.set_cons_succ]
 refine anyT_take (i := 1) (oi := { dst := some 45, op := Go.Op.indexAddr 30 (Go.Operand.tmp 44) (Go.Operand.const (Go.Value.int Go.IntKind.i64 1)), type := 0, pos := "law.go:25", after := #[{ on := 0, ground := Go.Ground.data }], guard := none }) (v := ?_) rfl (by kernel_rfl) (by kernel_rfl) (by kernel_rfl) (by decide) (by decide) (by kernel_rfl) (by kernel_rfl) (fun _ _ _ h => h) (Or.inl ⟨by rfl, ?_⟩) HH0 inv (fun inv => ?_)
 rotate_left
 ·intro w hSw
  try dsimp only at hSw
  go_simp
  try with_reducible rfl
 simp only [Act.put, List.setIfInBounds_toArray, List.set_cons_zero, List.set_cons_succ]
 refine anyT_take (i := 2) (oi := { dst := some 46, op := Go.Op.fieldAddr 48 (Go.Operand.tmp 45) 1, type := 0, pos := "law.go:25", after := #[{ on := 1, ground := Go.Ground.data }], guard := none }) (v := ?_) rfl (by kernel_rfl) (by kernel_rfl) (by kernel_rfl) (by decide) (by decide) (by kernel_rfl) (by kernel_rfl) (fun _ _ _ h => h) (Or.inl ⟨by rfl, ?_⟩) HH0 inv (fun inv => ?_)
 rotate_left
 ·intro w hSw
  try dsimp only at hSw
  go_simp
  try with_reducible rfl
 simp only [Act.put, List.setIfInBounds_toArray, List.set_cons_zero, List.set_cons_succ]
 refine anyT_take (i := 3) (oi := { dst := some 47, op := Go.Op.load 46 (Go.Operand.tmp 46), type := 46, pos := "law.go:25", after := #[{ on := 2, ground := Go.Ground.data }], guard := none }) (v := ?_) rfl (by kernel_rfl) (by kernel_rfl) (by kernel_rfl) (by decide) (by decide) (by kernel_rfl) (by kernel_rfl) (fun _ _ _ h => h) (Or.inl ⟨by rfl, ?_⟩) HH0 inv (fun inv => ?_)
 rotate_left
 ·intro w hSw
  try dsimp only at hSw
  go_simp
  try with_reducible rfl
 simp only [Act.put, List.setIfInBounds_toArray, List.set_cons_zero, List.set_cons_succ]
 refine anyT_take (i := 4) (oi := { dst := some 48, op := Go.Op.indexAddr 46 (Go.Operand.tmp 47) (Go.Operand.const (Go.Value.int Go.IntKind.i64 0)), type := 0, pos := "law.go:25", after := #[{ on := 3, ground := Go.Ground.data }], guard := none }) (v := ?_) rfl (by kernel_rfl) (by kernel_rfl) (by kernel_rfl) (by decide) (by decide) (by kernel_rfl) (by kernel_rfl) (fun _ _ _ h => h) (Or.inl ⟨by rfl, ?_⟩) HH0 inv (fun inv => ?_)
 rotate_left
 ·intro w hSw
  try dsimp only at hSw
  go_simp
  try with_reducible rfl
 simp only [Act.put, List.setIfInBounds_toArray, List.set_cons_zero, List.set_cons_succ]
 refine anyT_take (i := 5) (oi := { dst := some 49, op := Go.Op.load 69 (Go.Operand.tmp 48), type := 69, pos := "law.go:25", after := #[{ on := 4, ground := Go.Ground.data }], guard := none }) (v := ?_) rfl (by kernel_rfl) (by kernel_rfl) (by kernel_rfl) (by decide) (by decide) (by kernel_rfl) (by kernel_rfl) (fun _ _ _ h => h) (Or.inl ⟨by rfl, ?_⟩) HH0 inv (fun inv => ?_)
 rotate_left
 ·intro w hSw
  try dsimp only at hSw
  go_simp
  try with_reducible rfl
 simp only [Act.put, List.setIfInBounds_toArray, List.set_cons_zero, List.set_cons_succ]
 refine anyT_take (i := 6) (oi := { dst := some 50, op := Go.Op.binOp Go.BinOp.eql 69 (Go.Operand.tmp 49) (Go.Operand.const (Go.Value.int Go.IntKind.u64 9223372036854775808)) 69, type := 4, pos := "law.go:25", after := #[{ on := 5, ground := Go.Ground.data }], guard := none }) (v := ?_) rfl (by kernel_rfl) (by kernel_rfl) (by kernel_rfl) (by decide) (by decide) (by kernel_rfl) (by kernel_rfl) (fun _ _ _ h => h) (Or.inl ⟨by rfl, ?_⟩) HH0 inv (fun inv => ?_)
 rotate_left
 ·intro w hSw
  try dsimp only at hSw
  go_simp
  try with_reducible rfl
 simp only [Act.put, List.setIfInBounds_toArray, List.set_cons_zero, List.set_cons_succ]
 refine anyT_take (i := 7) (oi := { dst := some 51, op := Go.Op.move (Go.Operand.tmp 50), type := 4, pos := "law.go:25", after := #[{ on := 6, ground := Go.Ground.data }], guard := none }) (v := ?_) rfl (by kernel_rfl) (by kernel_rfl) (by kernel_rfl) (by decide) (by decide) (by kernel_rfl) (by kernel_rfl) (fun _ _ _ h => h) (Or.inl ⟨by rfl, ?_⟩) HH0 inv (fun inv => ?_)
 rotate_left
 ·intro w hSw
  try dsimp only at hSw
  go_simp
  try with_reducible rfl
 simp only [Act.put, List.setIfInBounds_toArray, List.set_cons_zero, List.set_cons_succ]
 refine anyT_take (i := 8) (oi := { dst := some 52, op := Go.Op.move (Go.Operand.tmp 4), type := 43, pos := "law.go:25", after := #[{ on := 7, ground := Go.Ground.guard }], guard := some (7, true) }) (v := ?_) rfl (by kernel_rfl) (by kernel_rfl) (by kernel_rfl) (by decide) (by decide) (by kernel_rfl) (by kernel_rfl) (fun _ _ _ h => h) (Or.inl ⟨by rfl, ?_⟩) HH0 inv (fun inv => ?_)
 rotate_left
 ·intro w hSw
  try dsimp only at hSw
  go_simp
  try with_reducible rfl
 simp only [Act.put, List.setIfInBounds_toArray, List.set_cons_zero, List.set_cons_succ]
 refine anyT_take (i := 9) (oi := { dst := some 53, op := Go.Op.call { callee := Go.Callee.builtin Go.Builtin.len, args := #[Go.Operand.tmp 52], argTypes := #[43] }, type := 3, pos := "law.go:25", after := #[{ on := 8, ground := Go.Ground.data }, { on := 7, ground := Go.Ground.guard }], guard := some (7, true) }) (v := ?_) rfl (by kernel_rfl) (by kernel_rfl) (by kernel_rfl) (by decide) (by decide) (by kernel_rfl) (by kernel_rfl) (fun _ _ _ h => h) (Or.inl ⟨by rfl, ?_⟩) HH0 inv (fun inv => ?_)
 rotate_left
 ·intro w hSw
  try dsimp only at hSw
  go_simp
  try with_reducible rfl
 simp only [Act.put, List.setIfInBounds_toArray, List.set_cons_zero, List.set_cons_succ]
 refine anyT_take (i := 10) (oi := { dst := some 54, op := Go.Op.binOp Go.BinOp.eql 3 (Go.Operand.tmp 53) (Go.Operand.const (Go.Value.int Go.IntKind.i64 1)) 3, type := 4, pos := "law.go:25", after := #[{ on := 9, ground := Go.Ground.data }, { on := 7, ground := Go.Ground.guard }], guard := some (7, true) }) (v := ?_) rfl (by kernel_rfl) (by kernel_rfl) (by kernel_rfl) (by decide) (by decide) (by kernel_rfl) (by kernel_rfl) (fun _ _ _ h => h) (Or.inl ⟨by rfl, ?_⟩) HH0 inv (fun inv => ?_)
 rotate_left
 ·intro w hSw
  try dsimp only at hSw
  go_simp
  try with_reducible rfl
 simp only [Act.put, List.setIfInBounds_toArray, List.set_cons_zero, List.set_cons_succ]
 refine anyT_take (i := 11) (oi := { dst := some 55, op := Go.Op.pick (Go.Operand.tmp 51) (Go.Operand.tmp 54) (Go.Operand.const (Go.Value.bool false)), type := 4, pos := "law.go:25", after := #[{ on := 7, ground := Go.Ground.data }, { on := 10, ground := Go.Ground.data }], guard := none }) (v := ?_) rfl (by kernel_rfl) (by kernel_rfl) (by kernel_rfl) (by decide) (by decide) (by kernel_rfl) (by kernel_rfl) (fun _ _ _ h => h) (Or.inl ⟨by rfl, ?_⟩) HH0 inv (fun inv => ?_)
 rotate_left
 ·intro w hSw
  try dsimp only at hSw
  go_simp
  try with_reducible rfl
 simp only [Act.put, List.setIfInBounds_toArray, List.set_cons_zero, List.set_cons_succ]
 refine anyT_take (i := 12) (oi := { dst := some 56, op := Go.Op.move (Go.Operand.tmp 55), type := 4, pos := "law.go:25", after := #[{ on := 11, ground := Go.Ground.data }, { on := 7, ground := Go.Ground.chain }], guard := none }) (v := ?_) rfl (by kernel_rfl) (by kernel_rfl) (by kernel_rfl) (by decide) (by decide) (by kernel_rfl) (by kernel_rfl) (fun _ _ _ h => h) (Or.inl ⟨by rfl, ?_⟩) HH0 inv (fun inv => ?_)
 rotate_left
 ·intro w hSw
  try dsimp only at hSw
  go_simp
  try with_reducible rfl
 simp only [Act.put, List.setIfInBounds_toArray, List.set_cons_zero, List.set_cons_succ]
 refine anyT_take (i := 13) (oi := { dst := some 57, op := Go.Op.move (Go.Operand.tmp 4), type := 43, pos := "law.go:25", after := #[{ on := 12, ground := Go.Ground.guard }], guard := some (12, true) }) (v := ?_) rfl (by kernel_rfl) (by kernel_rfl) (by kernel_rfl) (by decide) (by decide) (by kernel_rfl) (by kernel_rfl) (fun _ _ _ h => h) (Or.inl ⟨by rfl, ?_⟩) HH0 inv (fun inv => ?_)
 rotate_left
 ·intro w hSw
  try dsimp only at hSw
  go_simp
  try with_reducible rfl
 simp only [Act.put, List.setIfInBounds_toArray, List.set_cons_zero, List.set_cons_succ]
 refine anyT_take (i := 14) (oi := { dst := some 58, op := Go.Op.indexAddr 43 (Go.Operand.tmp 57) (Go.Operand.const (Go.Value.int Go.IntKind.i64 0)), type := 0, pos := "law.go:25", after := #[{ on := 13, ground := Go.Ground.data }, { on := 12, ground := Go.Ground.guard }], guard := some (12, true) }) (v := ?_) rfl (by kernel_rfl) (by kernel_rfl) (by kernel_rfl) (by decide) (by decide) (by kernel_rfl) (by kernel_rfl) (fun _ _ _ h => h) (Or.inl ⟨by rfl, ?_⟩) HH0 inv (fun inv => ?_)
 rotate_left
 ·intro w hSw
  try dsimp only at hSw
  go_simp
  try with_reducible rfl
 simp only [Act.put, List.setIfInBounds_toArray, List.set_cons_zero, List.set_cons_succ]
 refine anyT_take (i := 15) (oi := { dst := some 59, op := Go.Op.load 3 (Go.Operand.tmp 58), type := 3, pos := "law.go:25", after := #[{ on := 14, ground := Go.Ground.data }, { on := 12, ground := Go.Ground.guard }], guard := some (12, true) }) (v := ?_) rfl (by kernel_rfl) (by kernel_rfl) (by kernel_rfl) (by decide) (by decide) (by kernel_rfl) (by kernel_rfl) (fun _ _ _ h => h) (Or.inl ⟨by rfl, ?_⟩) HH0 inv (fun inv => ?_)
 rotate_left
 ·intro w hSw
  try dsimp only at hSw
  go_simp
  try with_reducible rfl
 simp only [Act.put, List.setIfInBounds_toArray, List.set_cons_zero, List.set_cons_succ]
 refine anyT_take (i := 16) (oi := { dst := some 60, op := Go.Op.binOp Go.BinOp.eql 3 (Go.Operand.tmp 59) (Go.Operand.const (Go.Value.int Go.IntKind.i64 0)) 3, type := 4, pos := "law.go:25", after := #[{ on := 15, ground := Go.Ground.data }, { on := 12, ground := Go.Ground.guard }], guard := some (12, true) }) (v := ?_) rfl (by kernel_rfl) (by kernel_rfl) (by kernel_rfl) (by decide) (by decide) (by kernel_rfl) (by kernel_rfl) (fun _ _ _ h => h) (Or.inl ⟨by rfl, ?_⟩) HH0 inv (fun inv => ?_)
 rotate_left
 ·intro w hSw
  try dsimp only at hSw
  go_simp
  try with_reducible rfl
 simp only [Act.put, List.setIfInBounds_toArray, List.set_cons_zero, List.set_cons_succ]
 refine anyT_take (i := 17) (oi := { dst := some 61, op := Go.Op.pick (Go.Operand.tmp 56) (Go.Operand.tmp 60) (Go.Operand.const (Go.Value.bool false)), type := 4, pos := "law.go:25", after := #[{ on := 12, ground := Go.Ground.data }, { on := 16, ground := Go.Ground.data }], guard := none }) (v := ?_) rfl (by kernel_rfl) (by kernel_rfl) (by kernel_rfl) (by decide) (by decide) (by kernel_rfl) (by kernel_rfl) (fun _ _ _ h => h) (Or.inl ⟨by rfl, ?_⟩) HH0 inv (fun inv => ?_)
 rotate_left
 ·intro w hSw
  try dsimp only at hSw
  go_simp
  try with_reducible rfl
 simp only [Act.put, List.setIfInBounds_toArray, List.set_cons_zero, List.set_cons_succ]
 refine anyT_take (i := 18) (oi := { dst := some 62, op := Go.Op.move (Go.Operand.tmp 61), type := 4, pos := "law.go:25", after := #[{ on := 17, ground := Go.Ground.data }, { on := 12, ground := Go.Ground.chain }], guard := none }) (v := ?_) rfl (by kernel_rfl) (by kernel_rfl) (by kernel_rfl) (by decide) (by decide) (by kernel_rfl) (by kernel_rfl) (fun _ _ _ h => h) (Or.inl ⟨by rfl, ?_⟩) HH0 inv (fun inv => ?_)
 rotate_left
 ·intro w hSw
  try dsimp only at hSw
  go_simp
  try with_reducible rfl
 simp only [Act.put, List.setIfInBounds_toArray, List.set_cons_zero, List.set_cons_succ]
 refine anyT_take (i := 19) (oi := { dst := some 63, op := Go.Op.load 27 (Go.Operand.tmp 1), type := 27, pos := "law.go:25", after := #[{ on := 18, ground := Go.Ground.guard }], guard := some (18, true) }) (v := ?_) rfl (by kernel_rfl) (by kernel_rfl) (by kernel_rfl) (by decide) (by decide) (by kernel_rfl) (by kernel_rfl) (fun _ _ _ h => h) (Or.inl ⟨by rfl, ?_⟩) HH0 inv (fun inv => ?_)
 rotate_left
 ·intro w hSw
  try dsimp only at hSw
  go_simp
  try with_reducible rfl
 simp only [Act.put, List.setIfInBounds_toArray, List.set_cons_zero, List.set_cons_succ]
 refine anyT_take (i := 20) (oi := { dst := some 64, op := Go.Op.load 55 (Go.Operand.tmp 5), type := 55, pos := "law.go:25", after := #[{ on := 18, ground := Go.Ground.guard }], guard := some (18, true) }) (v := ?_) rfl (by kernel_rfl) (by kernel_rfl) (by kernel_rfl) (by decide) (by decide) (by kernel_rfl) (by kernel_rfl) (fun _ _ _ h => h) (Or.inl ⟨by rfl, ?_⟩) HH0 inv (fun inv => ?_)
 rotate_left
 ·intro w hSw
  try dsimp only at hSw
  go_simp
  try with_reducible rfl
 simp only [Act.put, List.setIfInBounds_toArray, List.set_cons_zero, List.set_cons_succ]
 refine anyT_next (i := 21) (o := { dst := some 65, op := Go.Op.call { callee := Go.Callee.value (Go.Operand.func 24), args := #[Go.Operand.tmp 63, Go.Operand.tmp 64], argTypes := #[27, 55] }, type := 30, pos := "law.go:25", after := #[{ on := 19, ground := Go.Ground.data }, { on := 20, ground := Go.Ground.data }, { on := 18, ground := Go.Ground.chain }, { on := 18, ground := Go.Ground.guard }], guard := some (18, true) }) (by kernel_rfl) rfl (by decide) inv (fun inv K' hK => ?_)
 go_simp
 refine (Ahead_any HGf.out HAf.out HTf.out (Nat.le_trans hBt HBf.out.size)).mono ?_
 rintro e wg hap
 obtain ⟨hbg, ho, hc, rfl⟩ := ex_ahead hap
 have HBg := hid hbg
 have HH1 := HS.out wg hbg
 refine hK.out _ _ HH1 ?_
 clear hK K' HH0
 try simp only [Act.put, List.setIfInBounds_toArray, List.set_cons_zero, List.set_cons_succ]
 refine anyT_take (i := 22) (oi := { dst := some 66, op := Go.Op.call { callee := Go.Callee.builtin Go.Builtin.len, args := #[Go.Operand.tmp 65], argTypes := #[30] }, type := 3, pos := "law.go:25", after := #[{ on := 21, ground := Go.Ground.data }, { on := 18, ground := Go.Ground.guard }], guard := some (18, true) }) (v := ?_) rfl (by kernel_rfl) (by kernel_rfl) (by kernel_rfl) (by decide) (by decide) (by kernel_rfl) (by kernel_rfl) (fun _ _ _ h => h) (Or.inl ⟨by rfl, ?_⟩) HH1 inv (fun inv => ?_)
 rotate_left
 ·intro w hSw
  try dsimp only at hSw
  go_simp
  try with_reducible rfl
 simp only [Act.put, List.setIfInBounds_toArray, List.set_cons_zero, List.set_cons_succ]
 refine anyT_take (i := 23) (oi := { dst := some 67, op := Go.Op.binOp Go.BinOp.eql 3 (Go.Operand.tmp 66) (Go.Operand.const (Go.Value.int Go.IntKind.i64 3)) 3, type := 4, pos := "law.go:25", after := #[{ on := 22, ground := Go.Ground.data }, { on := 18, ground := Go.Ground.guard }], guard := some (18, true) }) (v := ?_) rfl (by kernel_rfl) (by kernel_rfl) (by kernel_rfl) (by decide) (by decide) (by kernel_rfl) (by kernel_rfl) (fun _ _ _ h => h) (Or.inl ⟨by rfl, ?_⟩) HH1 inv (fun inv => ?_)
 rotate_left
 ·intro w hSw
  try dsimp only at hSw
  go_simp
  try with_reducible rfl
 simp only [Act.put, List.setIfInBounds_toArray, List.set_cons_zero, List.set_cons_succ]
 refine anyT_take (i := 24) (oi := { dst := some 68, op := Go.Op.pick (Go.Operand.tmp 62) (Go.Operand.tmp 67) (Go.Operand.const (Go.Value.bool false)), type := 4, pos := "law.go:25", after := #[{ on := 18, ground := Go.Ground.data }, { on := 23, ground := Go.Ground.data }], guard := none }) (v := ?_) rfl (by kernel_rfl) (by kernel_rfl) (by kernel_rfl) (by decide) (by decide) (by kernel_rfl) (by kernel_rfl) (fun _ _ _ h => h) (Or.inl ⟨by rfl, ?_⟩) HH1 inv (fun inv => ?_)
 rotate_left
 ·intro w hSw
  try dsimp only at hSw
  go_simp
  try with_reducible rfl
 simp only [Act.put, List.setIfInBounds_toArray, List.set_cons_zero, List.set_cons_succ]
 refine anyT_take (i := 25) (oi := { dst := some 69, op := Go.Op.move (Go.Operand.tmp 68), type := 4, pos := "law.go:25", after := #[{ on := 24, ground := Go.Ground.data }, { on := 21, ground := Go.Ground.chain }], guard := none }) (v := ?_) rfl (by kernel_rfl) (by kernel_rfl) (by kernel_rfl) (by decide) (by decide) (by kernel_rfl) (by kernel_rfl) (fun _ _ _ h => h) (Or.inl ⟨by rfl, ?_⟩) HH1 inv (fun inv => ?_)
 rotate_left
 ·intro w hSw
  try dsimp only at hSw
  go_simp
  try with_reducible rfl
 simp only [Act.put, List.setIfInBounds_toArray, List.set_cons_zero, List.set_cons_succ]
 refine anyT_take (i := 26) (oi := { dst := some 70, op := Go.Op.load 27 (Go.Operand.tmp 1), type := 27, pos := "law.go:25", after := #[{ on := 25, ground := Go.Ground.guard }], guard := some (25, true) }) (v := ?_) rfl (by kernel_rfl) (by kernel_rfl) (by kernel_rfl) (by decide) (by decide) (by kernel_rfl) (by kernel_rfl) (fun _ _ _ h => h) (Or.inl ⟨by rfl, ?_⟩) HH1 inv (fun inv => ?_)
 rotate_left
 ·intro w hSw
  try dsimp only at hSw
  go_simp
  try with_reducible rfl
 simp only [Act.put, List.setIfInBounds_toArray, List.set_cons_zero, List.set_cons_succ]
 refine anyT_take (i := 27) (oi := { dst := some 71, op := Go.Op.move (Go.Operand.tmp 2), type := 30, pos := "law.go:25", after := #[{ on := 25, ground := Go.Ground.guard }], guard := some (25, true) }) (v := ?_) rfl (by kernel_rfl) (by kernel_rfl) (by kernel_rfl) (by decide) (by decide) (by kernel_rfl) (by kernel_rfl) (fun _ _ _ h => h) (Or.inl ⟨by rfl, ?_⟩) HH1 inv (fun inv => ?_)
 rotate_left
 ·intro w hSw
  try dsimp only at hSw
  go_simp
  try with_reducible rfl
 simp only [Act.put, List.setIfInBounds_toArray, List.set_cons_zero, List.set_cons_succ]
 refine anyT_take (i := 28) (oi := { dst := some 72, op := Go.Op.indexAddr 30 (Go.Operand.tmp 71) (Go.Operand.const (Go.Value.int Go.IntKind.i64 0)), type := 0, pos := "law.go:25", after := #[{ on := 27, ground := Go.Ground.data }, { on := 25, ground := Go.Ground.guard }], guard := some (25, true) }) (v := ?_) rfl (by kernel_rfl) (by kernel_rfl) (by kernel_rfl) (by decide) (by decide) (by kernel_rfl) (by kernel_rfl) (fun _ _ _ h => h) (Or.inl ⟨by rfl, ?_⟩) HH1 inv (fun inv => ?_)
 rotate_left
 ·intro w hSw
  try dsimp only at hSw
  go_simp
  try with_reducible rfl
 simp only [Act.put, List.setIfInBounds_toArray, List.set_cons_zero, List.set_cons_succ]
 refine anyT_take (i := 29) (oi := { dst := some 73, op := Go.Op.load 48 (Go.Operand.tmp 72), type := 48, pos := "law.go:25", after := #[{ on := 28, ground := Go.Ground.data }, { on := 25, ground := Go.Ground.guard }], guard := some (25, true) }) (v := ?_) rfl (by kernel_rfl) (by kernel_rfl) (by kernel_rfl) (by decide) (by decide) (by kernel_rfl) (by kernel_rfl) (fun _ _ _ h => h) (Or.inl ⟨by rfl, ?_⟩) HH1 inv (fun inv => ?_)
 rotate_left
 ·intro w hSw
  try dsimp only at hSw
  go_simp
  try with_reducible rfl
 simp only [Act.put, List.setIfInBounds_toArray, List.set_cons_zero, List.set_cons_succ]
 refine anyT_next (i := 30) (o := { dst := some 74, op := Go.Op.call { callee := Go.Callee.value (Go.Operand.func 21), args := #[Go.Operand.tmp 70, Go.Operand.tmp 73], argTypes := #[27, 48] }, type := 43, pos := "law.go:25", after := #[{ on := 26, ground := Go.Ground.data }, { on := 29, ground := Go.Ground.data }, { on := 25, ground := Go.Ground.chain }, { on := 25, ground := Go.Ground.guard }], guard := some (25, true) }) (by kernel_rfl) rfl (by decide) inv (fun inv K' hK => ?_)
 go_simp
 refine (Done_any (HGf.out.below HBg.out) X14.ex_valid (HIf.out.1.below HBg.out) (by show (2 : Nat) ≤ _; omega) (HIf.out.2.below HBg.out)).mono ?_
 rintro e wh ⟨dv0, rfl, hbh, hdv0⟩
 rw [show ([((-1 : Int), (0 : Int)), (0, 0)] : List It).length = 2 from rfl, ex_done0] at hdv0
 obtain ⟨zo, zc, rfl⟩ := ownsT_shape hdv0
 have HBh := hid (HBg.out.trans (hbh.mono HBg.out.size))
 have HH2 := HS.out wh HBh.out
 refine hK.out _ _ HH2 ?_
 clear hK K' HH1
 try simp only [Act.put, List.setIfInBounds_toArray, List.set_cons_zero, List.set_cons_succ]
 refine anyT_take (i := 31) (oi := { dst := some 75, op := Go.Op.call { callee := Go.Callee.builtin Go.Builtin.len, args := #[Go.Operand.tmp 74], argTypes := #[43] }, type := 3, pos := "law.go:25", after := #[{ on := 30, ground := Go.Ground.data }, { on := 25, ground := Go.Ground.guard }], guard := some (25, true) }) (v := ?_) rfl (by kernel_rfl) (by kernel_rfl) (by kernel_rfl) (by decide) (by decide) (by kernel_rfl) (by kernel_rfl) (fun _ _ _ h => h) (Or.inl ⟨by rfl, ?_⟩) HH2 inv (fun inv => ?_)
 rotate_left
 ·intro w hSw
  try dsimp only at hSw
  go_simp
  try with_reducible rfl
 simp only [Act.put, List.setIfInBounds_toArray, List.set_cons_zero, List.set_cons_succ]
 refine anyT_take (i := 32) (oi := { dst := some 76, op := Go.Op.binOp Go.BinOp.eql 3 (Go.Operand.tmp 75) (Go.Operand.const (Go.Value.int Go.IntKind.i64 0)) 3, type := 4, pos := "law.go:25", after := #[{ on := 31, ground := Go.Ground.data }, { on := 25, ground := Go.Ground.guard }], guard := some (25, true) }) (v := ?_) rfl (by kernel_rfl) (by kernel_rfl) (by kernel_rfl) (by decide) (by decide) (by kernel_rfl) (by kernel_rfl) (fun _ _ _ h => h) (Or.inl ⟨by rfl, ?_⟩) HH2 inv (fun inv => ?_)
 rotate_left
 ·intro w hSw
  try dsimp only at hSw
  go_simp
  try with_reducible rfl
 simp only [Act.put, List.setIfInBounds_toArray, List.set_cons_zero, List.set_cons_succ]
 refine anyT_take (i := 33) (oi := { dst := some 77, op := Go.Op.pick (Go.Operand.tmp 69) (Go.Operand.tmp 76) (Go.Operand.const (Go.Value.bool false)), type := 4, pos := "law.go:25", after := #[{ on := 25, ground := Go.Ground.data }, { on := 32, ground := Go.Ground.data }], guard := none }) (v := ?_) rfl (by kernel_rfl) (by kernel_rfl) (by kernel_rfl) (by decide) (by decide) (by kernel_rfl) (by kernel_rfl) (fun _ _ _ h => h) (Or.inl ⟨by rfl, ?_⟩) HH2 inv (fun inv => ?_)
 rotate_left
 ·intro w hSw
  try dsimp only at hSw
  go_simp
  try with_reducible rfl
 simp only [Act.put, List.setIfInBounds_toArray, List.set_cons_zero, List.set_cons_succ]
 refine anyT_one (i := 34) (o := { dst := some 0, op := Go.Op.assign (Go.Operand.tmp 77), type := 4, pos := "law.go:25", after := #[{ on := 33, ground := Go.Ground.data }, { on := 30, ground := Go.Ground.chain }, { on := 0, ground := Go.Ground.phase }, { on := 1, ground := Go.Ground.phase }, { on := 2, ground := Go.Ground.phase }, { on := 3, ground := Go.Ground.phase }, { on := 4, ground := Go.Ground.phase }, { on := 5, ground := Go.Ground.phase }, { on := 6, ground := Go.Ground.phase }, { on := 7, ground := Go.Ground.phase }, { on := 8, ground := Go.Ground.phase }, { on := 9, ground := Go.Ground.phase }, { on := 10, ground := Go.Ground.phase }, { on := 11, ground := Go.Ground.phase }, { on := 12, ground := Go.Ground.phase }, { on := 13, ground := Go.Ground.phase }, { on := 14, ground := Go.Ground.phase }, { on := 15, ground := Go.Ground.phase }, { on := 16, ground := Go.Ground.phase }, { on := 17, ground := Go.Ground.phase }, { on := 18, ground := Go.Ground.phase }, { on := 19, ground := Go.Ground.phase }, { on := 20, ground := Go.Ground.phase }, { on := 21, ground := Go.Ground.phase }, { on := 22, ground := Go.Ground.phase }, { on := 23, ground := Go.Ground.phase }, { on := 24, ground := Go.Ground.phase }, { on := 25, ground := Go.Ground.phase }, { on := 26, ground := Go.Ground.phase }, { on := 27, ground := Go.Ground.phase }, { on := 28, ground := Go.Ground.phase }, { on := 29, ground := Go.Ground.phase }, { on := 30, ground := Go.Ground.phase }, { on := 31, ground := Go.Ground.phase }, { on := 32, ground := Go.Ground.phase }, { on := 33, ground := Go.Ground.phase }], guard := none }) (by kernel_rfl) rfl (fun K' hK => ?_)
 go_simp
 refine hK.out _ _ (fun h => absurd h (by decide)) ?_
 clear hK K'
 try simp only [Act.put, List.setIfInBounds_toArray, List.set_cons_zero, List.set_cons_succ]
 refine anyT_done (by kernel_rfl) ?_ _
 go_wp2_with fail
 go_ret
 exact ⟨rfl, HBf.out.trans (HBh.out.mono HBf.out.size)⟩
end Go.Proofs.YticmnfmijdgmbaaGreatDoor
