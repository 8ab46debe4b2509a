/- The document's example holds. -/
import Derived.Test.YtjpbhbfklkipkaaDoorTa
namespace Go.Proofs.YtjpbhbfklkipkaaDoor
open Go Go.RowKit Go.Lib
open X14 (It exG closeV stepV)
set_option linter.unusedVariables false
set_option linter.unusedSimpArgs false
/-- The example's grammar, laid. -/
def wE (w : World) : World :=
  ((((w.alloc (.cells #[.string ⟨#[97]⟩, .string ⟨#[]⟩, .bool false, .int .i64 0] 69)).alloc (.cells #[.string ⟨#[83]⟩] 9)).alloc (.cells #[.int .i64 0] 29)).alloc
    (.cells #[.string ⟨#[112]⟩, .int .i64 0, .slice (some ⟨w.heap.size + 1 + 1, 0, none⟩) 1 1, .int .i64 0] 64)).alloc
    (.cells #[.slice (some ⟨w.heap.size, 0, none⟩) 1 1, .slice none 0 0, .slice (some ⟨w.heap.size + 1, 0, none⟩) 1 1, .slice (some ⟨w.heap.size + 1 + 1 + 1, 0, none⟩) 1 1, .int .i64 0] 27)
abbrev gE (w : World) : Value := .agg #[.slice (some ⟨w.heap.size, 0, none⟩) 1 1, .slice none 0 0, .slice (some ⟨w.heap.size + 1, 0, none⟩) 1 1, .slice (some ⟨w.heap.size + 1 + 1 + 1, 0, none⟩) 1 1, .int .i64 0]
theorem below_al {B : Nat} {a w : World} (h : Below B a w) (hB : B ≤ w.heap.size) (o : Obj) : Below B a (w.alloc o) ∧ B ≤ (w.alloc o).heap.size := ⟨h.alloc hB o, by simp; omega⟩
theorem wE_below (w : World) : Below w.heap.size w (wE w) := by
  have h1 := below_al (Below.refl w.heap.size w) (Nat.le_refl _) (.cells #[.string ⟨#[97]⟩, .string ⟨#[]⟩, .bool false, .int .i64 0] 69)
  have h2 := below_al h1.1 h1.2 (.cells #[.string ⟨#[83]⟩] 9)
  have h3 := below_al h2.1 h2.2 (.cells #[.int .i64 0] 29)
  have h4 := below_al h3.1 h3.2 (.cells #[.string ⟨#[112]⟩, .int .i64 0, .slice (some ⟨w.heap.size + 1 + 1, 0, none⟩) 1 1, .int .i64 0] 64)
  exact (below_al h4.1 h4.2 _).1
theorem heap_al {w : World} {o o' : Obj} {g : Nat} (h : w.heap[g]? = some o) : (w.alloc o').heap[g]? = some o := (Below.heap_alloc w o' g (Array.getElem?_eq_some_iff.1 h).1).trans h
theorem new_at (w : World) (o : Obj) {g : Nat} (h : w.heap.size = g) : (w.alloc o).heap[g]? = some o := by rw [← h]; exact new_block w o
theorem wE_0 (w : World) : (wE w).heap[w.heap.size]? = some (.cells #[.string ⟨#[97]⟩, .string ⟨#[]⟩, .bool false, .int .i64 0] 69) := heap_al (heap_al (heap_al (heap_al (new_block w _))))
theorem wE_1 (w : World) : (wE w).heap[w.heap.size + 1]? = some (.cells #[.string ⟨#[83]⟩] 9) := heap_al (heap_al (heap_al (new_at _ _ (by simp))))
theorem wE_2 (w : World) : (wE w).heap[w.heap.size + 1 + 1]? = some (.cells #[.int .i64 0] 29) := heap_al (heap_al (new_at _ _ (by simp)))
theorem wE_3 (w : World) : (wE w).heap[w.heap.size + 1 + 1 + 1]? = some (.cells #[.string ⟨#[112]⟩, .int .i64 0, .slice (some ⟨w.heap.size + 1 + 1, 0, none⟩) 1 1, .int .i64 0] 64) := heap_al (new_at _ _ (by simp))
theorem wE_4 (w : World) : (wE w).heap[w.heap.size + 1 + 1 + 1 + 1]? = some (.cells #[.slice (some ⟨w.heap.size, 0, none⟩) 1 1, .slice none 0 0, .slice (some ⟨w.heap.size + 1, 0, none⟩) 1 1, .slice (some ⟨w.heap.size + 1 + 1 + 1, 0, none⟩) 1 1, .int .i64 0] 27) := new_at _ _ (by simp)
theorem gE_at (w : World) : Gram (wE w) (gE w) exG := by
  refine ⟨.slice (some ⟨w.heap.size, 0, none⟩) 1 1, .slice none 0 0, .slice (some ⟨w.heap.size + 1, 0, none⟩) 1 1, .slice (some ⟨w.heap.size + 1 + 1 + 1, 0, none⟩) 1 1, fun _ j => if j = 1 then .string ⟨#[]⟩ else if j = 2 then .bool false else .int .i64 0, fun _ => .slice (some ⟨w.heap.size + 1 + 1, 0, none⟩) 1 1, rfl, ?_, ?_, ?_, ?_, ?_, ?_⟩
  · refine ⟨_, _, rfl, by decide, fun _ => ⟨_, 0, rfl, fun i hi => ?_⟩⟩
    obtain rfl : i = 0 := by have : i < 1 := hi; omega
    exact ⟨Lib.cell_of_heap (wE_0 w) 0, Lib.cell_of_heap (wE_0 w) 1, Lib.cell_of_heap (wE_0 w) 2, Lib.cell_of_heap (wE_0 w) 3⟩
  · exact ⟨_, _, rfl, by decide, fun h => absurd h (by decide)⟩
  · refine ⟨_, _, rfl, by decide, fun _ => ⟨_, 0, rfl, fun i hi => ?_⟩⟩
    obtain rfl : i = 0 := by have : i < 1 := hi; omega
    exact Lib.cell_of_heap (wE_1 w) 0
  · refine ⟨_, _, rfl, by decide, fun _ => ⟨_, 0, rfl, fun i hi => ?_⟩⟩
    obtain rfl : i = 0 := by have : i < 1 := hi; omega
    exact ⟨Lib.cell_of_heap (wE_3 w) 0, Lib.cell_of_heap (wE_3 w) 1, Lib.cell_of_heap (wE_3 w) 2, Lib.cell_of_heap (wE_3 w) 3⟩
  · intro i hi
    obtain rfl : i = 0 := by have : i < 1 := hi; omega
    refine ⟨⟨_, _, rfl, by decide, fun _ => ⟨_, 0, rfl, fun i hi => ?_⟩⟩, by decide⟩
    obtain rfl : i = 0 := by have : i < 1 := hi; omega
    exact Lib.cell_of_heap (wE_2 w) 0
  · intro i hi a n c e
    cases e
    decide
set_option maxRecDepth 100000 in
set_option maxHeartbeats 8000000 in
theorem works_any {Bt : Nat} (w : World) (ht : Tab Bt w) (hBt : Bt ≤ w.heap.size) : Calls Tryd.prog 9 #[] w fun e w' => e = .returned (.bool true) ∧ Below w.heap.size w w' := by
  have hB := wE_below w
  have n4 := wE_4 w
  have HG0 := hid (gE_at w)
  have HT0 := hid (ht.on (hB.mono hBt))
  unfold gE at HG0
  obtain ⟨w0, hw0⟩ : ∃ w0, w0 = wE w := ⟨_, rfl⟩
  rw [← hw0] at hB n4 HG0 HT0
  have c0 : w0.cell? ⟨w.heap.size + 1 + 1 + 1 + 1, 0, none⟩ = some (.slice (some ⟨w.heap.size, 0, none⟩) 1 1) := Lib.cell_of_heap n4 0
  have c1 : w0.cell? ⟨w.heap.size + 1 + 1 + 1 + 1, 1, none⟩ = some (.slice none 0 0) := Lib.cell_of_heap n4 1
  have c2 : w0.cell? ⟨w.heap.size + 1 + 1 + 1 + 1, 2, none⟩ = some (.slice (some ⟨w.heap.size + 1, 0, none⟩) 1 1) := Lib.cell_of_heap n4 2
  have c3 : w0.cell? ⟨w.heap.size + 1 + 1 + 1 + 1, 3, none⟩ = some (.slice (some ⟨w.heap.size + 1 + 1 + 1, 0, none⟩) 1 1) := Lib.cell_of_heap n4 3
  have c4 : w0.cell? ⟨w.heap.size + 1 + 1 + 1 + 1, 4, none⟩ = some (.int .i64 0) := Lib.cell_of_heap n4 4
  have HB0 := hid hB
  have hsz := hB.size
  have HN0 := hid n4
  have KB := hid (Build_any HG0.out HT0.out (Nat.le_trans hBt hsz))
  clear hB n4
  go_enter Tryd.func9, Tryd.ntmps9
  go_upto_region 2 with fail
  unfold wE at hw0
  rw [← hw0]
  clear hw0
  go_wp2_with fail
  refine KB.out.mono ?_
  rintro e w1 hbp
  obtain ⟨hb1, av, rfl, hav⟩ := ex_build hbp
  have HAV := hid hav
  obtain ⟨kv, nv, rfl, hkv, hnv⟩ := hav
  obtain ⟨ko, kc, rfl, _⟩ := hkv.len
  obtain ⟨no, nc, rfl, _⟩ := hnv.len
  obtain ⟨wA, eA⟩ : ∃ wA, w1.alloc (.cells #[.slice ko 3 kc, .slice no 3 nc] 49) = wA := ⟨_, rfl⟩
  have hbA : Below w1.heap.size w1 wA := by rw [← eA]; exact (Below.refl _ _).alloc (Nat.le_refl _) _
  have nA : wA.heap[w1.heap.size]? = some (.cells #[.slice ko 3 kc, .slice no 3 nc] 49 (0, 0)) := by rw [← eA]; exact new_block _ _
  obtain ⟨wq, eq⟩ : ∃ wq, wA.alloc (.cells #[.int .i64 (-1), .int .i64 0] 37) = wq := ⟨_, rfl⟩
  have hbq : Below wA.heap.size wA wq := by rw [← eq]; exact (Below.refl _ _).alloc (Nat.le_refl _) _
  have nq : wq.heap[wA.heap.size]? = some (.cells #[.int .i64 (-1), .int .i64 0] 37 (0, 0)) := by rw [← eq]; exact new_block _ _
  have h01 := hb1.trans ((hbA.trans (hbq.mono hbA.size)).mono hb1.size)
  have HBq := hid (HB0.out.trans (h01.mono hsz))
  have nGq := (h01.block _ (Array.getElem?_eq_some_iff.1 HN0.out).1).trans HN0.out
  have nGA := ((hb1.trans (hbA.mono hb1.size)).block _ (Array.getElem?_eq_some_iff.1 HN0.out).1).trans HN0.out
  have HAq := hid ((hbq.block _ (Array.getElem?_eq_some_iff.1 nA).1).trans nA)
  have HNq := hid nGq
  have HGq := hid (HG0.out.below h01)
  have HAVq := hid (HAV.out.below (hbA.trans (hbq.mono hbA.size)))
  have KC := Close_any (l := [((-1 : Int), (0 : Int))]) (v := .slice (some ⟨wA.heap.size, 0, none⟩) 1 1) HGq.out ⟨_, _, rfl, by show (1 : Nat) ≤ 9223372036854775807; omega, fun _ => ⟨wA.heap.size, 0, rfl, fun i hi => by
    obtain rfl : i = 0 := by have : i < 1 := hi; omega
    exact ⟨Lib.cell_of_heap nq 0, Lib.cell_of_heap nq 1⟩⟩⟩ (by show (1 : Nat) ≤ 100000; omega)
  rw [X14.ex_close] at KC
  have KC := hid KC
  clear c0 c1 c2 c3 c4
  have c0 : wA.cell? ⟨w.heap.size + 1 + 1 + 1 + 1, 0, none⟩ = some (.slice (some ⟨w.heap.size, 0, none⟩) 1 1) := Lib.cell_of_heap nGA 0
  have c1 : wA.cell? ⟨w.heap.size + 1 + 1 + 1 + 1, 1, none⟩ = some (.slice none 0 0) := Lib.cell_of_heap nGA 1
  have c2 : wA.cell? ⟨w.heap.size + 1 + 1 + 1 + 1, 2, none⟩ = some (.slice (some ⟨w.heap.size + 1, 0, none⟩) 1 1) := Lib.cell_of_heap nGA 2
  have c3 : wA.cell? ⟨w.heap.size + 1 + 1 + 1 + 1, 3, none⟩ = some (.slice (some ⟨w.heap.size + 1 + 1 + 1, 0, none⟩) 1 1) := Lib.cell_of_heap nGA 3
  have c4 : wA.cell? ⟨w.heap.size + 1 + 1 + 1 + 1, 4, none⟩ = some (.int .i64 0) := Lib.cell_of_heap nGA 4
  clear hbp hkv hnv hb1 hbA nA hbq nq h01 nGq nGA KB HAV
  go_wp2_with fail
  refine KC.out.mono ?_
  rintro e w3 ⟨cv, rfl, hcv, hb3⟩
  have HB3 := hid (HBq.out.trans (hb3.mono HBq.out.size))
  have HG3 := hid (HGq.out.below hb3)
  have HN3 := hid ((hb3.block _ (Array.getElem?_eq_some_iff.1 HNq.out).1).trans HNq.out)
  have HA3 := hid ((hb3.block _ (Array.getElem?_eq_some_iff.1 HAq.out).1).trans HAq.out)
  have HAV3 := hid (HAVq.out.below hb3)
  have HCV := hid hcv
  obtain ⟨co, cc, rfl, _⟩ := hcv.len
  have KS := Step_any HG3.out HCV.out (by show (2 : Nat) ≤ 100000; omega) 0 (by decide) (by decide)
  rw [← X14.ex_close, X14.ex_step, X14.ex_close] at KS
  have KS := hid KS
  clear c0 c1 c2 c3 c4 eq eA KC hcv hb3
  have c0 : w3.cell? ⟨w.heap.size + 1 + 1 + 1 + 1, 0, none⟩ = some (.slice (some ⟨w.heap.size, 0, none⟩) 1 1) := Lib.cell_of_heap HN3.out 0
  have c1 : w3.cell? ⟨w.heap.size + 1 + 1 + 1 + 1, 1, none⟩ = some (.slice none 0 0) := Lib.cell_of_heap HN3.out 1
  have c2 : w3.cell? ⟨w.heap.size + 1 + 1 + 1 + 1, 2, none⟩ = some (.slice (some ⟨w.heap.size + 1, 0, none⟩) 1 1) := Lib.cell_of_heap HN3.out 2
  have c3 : w3.cell? ⟨w.heap.size + 1 + 1 + 1 + 1, 3, none⟩ = some (.slice (some ⟨w.heap.size + 1 + 1 + 1, 0, none⟩) 1 1) := Lib.cell_of_heap HN3.out 3
  have c4 : w3.cell? ⟨w.heap.size + 1 + 1 + 1 + 1, 4, none⟩ = some (.int .i64 0) := Lib.cell_of_heap HN3.out 4
  go_wp2_with fail
  refine KS.out.mono ?_
  rintro e w4 ⟨sv, rfl, hsv, hb4⟩
  have HB4 := hid (HB3.out.trans (hb4.mono HB3.out.size))
  have HG4 := hid (HG3.out.below hb4)
  have HN4 := hid ((hb4.block _ (Array.getElem?_eq_some_iff.1 HN3.out).1).trans HN3.out)
  have HA4 := hid ((hb4.block _ (Array.getElem?_eq_some_iff.1 HA3.out).1).trans HA3.out)
  have HAV4 := hid (HAV3.out.below hb4)
  have HSV := hid hsv
  obtain ⟨so, sc, rfl, _⟩ := hsv.len
  have KH := Behind_any HG4.out ((0 : Int), (0 : Int))
  unfold BehVP at KH
  rw [ex_behV] at KH
  unfold itV at KH
  have KH := hid KH
  clear c0 c1 c2 c3 c4 KS hsv hb4
  have c0 : w4.cell? ⟨w.heap.size + 1 + 1 + 1 + 1, 0, none⟩ = some (.slice (some ⟨w.heap.size, 0, none⟩) 1 1) := Lib.cell_of_heap HN4.out 0
  have c1 : w4.cell? ⟨w.heap.size + 1 + 1 + 1 + 1, 1, none⟩ = some (.slice none 0 0) := Lib.cell_of_heap HN4.out 1
  have c2 : w4.cell? ⟨w.heap.size + 1 + 1 + 1 + 1, 2, none⟩ = some (.slice (some ⟨w.heap.size + 1, 0, none⟩) 1 1) := Lib.cell_of_heap HN4.out 2
  have c3 : w4.cell? ⟨w.heap.size + 1 + 1 + 1 + 1, 3, none⟩ = some (.slice (some ⟨w.heap.size + 1 + 1 + 1, 0, none⟩) 1 1) := Lib.cell_of_heap HN4.out 3
  have c4 : w4.cell? ⟨w.heap.size + 1 + 1 + 1 + 1, 4, none⟩ = some (.int .i64 0) := Lib.cell_of_heap HN4.out 4
  go_wp2_with fail
  refine KH.out.mono ?_
  rintro e w5 ⟨rfl, hb5⟩
  have HB5 := hid (HB4.out.trans (hb5.mono HB4.out.size))
  have HG5 := hid (HG4.out.below hb5)
  have HN5 := hid ((hb5.block _ (Array.getElem?_eq_some_iff.1 HN4.out).1).trans HN4.out)
  have HA5 := hid ((hb5.block _ (Array.getElem?_eq_some_iff.1 HA4.out).1).trans HA4.out)
  have HAV5 := hid (HAV4.out.below hb5)
  obtain ⟨sb, sf, rfl, q0, q1⟩ := (HSV.out.below hb5).at_ (k := 0) (x := ((0 : Int), (1 : Int))) rfl
  have q0 : w5.cell? ⟨sb, sf, none⟩ = some (.int .i64 0) := q0
  have q1 : w5.cell? ⟨sb, sf + 1, none⟩ = some (.int .i64 1) := by simpa using q1
  have hE := eql37 0 1 0 1
  have KG := hid (Go_any HG5.out HAV5.out ex_nx 0 0 (by decide) (by decide))
  rw [ex_go0] at KG
  clear c0 c1 c2 c3 c4 KH hb5
  have c0 : w5.cell? ⟨w.heap.size + 1 + 1 + 1 + 1, 0, none⟩ = some (.slice (some ⟨w.heap.size, 0, none⟩) 1 1) := Lib.cell_of_heap HN5.out 0
  have c1 : w5.cell? ⟨w.heap.size + 1 + 1 + 1 + 1, 1, none⟩ = some (.slice none 0 0) := Lib.cell_of_heap HN5.out 1
  have c2 : w5.cell? ⟨w.heap.size + 1 + 1 + 1 + 1, 2, none⟩ = some (.slice (some ⟨w.heap.size + 1, 0, none⟩) 1 1) := Lib.cell_of_heap HN5.out 2
  have c3 : w5.cell? ⟨w.heap.size + 1 + 1 + 1 + 1, 3, none⟩ = some (.slice (some ⟨w.heap.size + 1 + 1 + 1, 0, none⟩) 1 1) := Lib.cell_of_heap HN5.out 3
  have c4 : w5.cell? ⟨w.heap.size + 1 + 1 + 1 + 1, 4, none⟩ = some (.int .i64 0) := Lib.cell_of_heap HN5.out 4
  have a0 : w5.cell? ⟨w1.heap.size, 0, none⟩ = some (.slice ko 3 kc) := Lib.cell_of_heap HA5.out 0
  have a1 : w5.cell? ⟨w1.heap.size, 1, none⟩ = some (.slice no 3 nc) := Lib.cell_of_heap HA5.out 1
  go_wp2_with fail
  refine KG.out.mono ?_
  rintro e w6 ⟨rfl, hb6⟩
  have HB6 := hid (HB5.out.trans (hb6.mono HB5.out.size))
  have HG6 := hid (HG5.out.below hb6)
  have HN6 := hid ((hb6.block _ (Array.getElem?_eq_some_iff.1 HN5.out).1).trans HN5.out)
  have HA6 := hid ((hb6.block _ (Array.getElem?_eq_some_iff.1 HA5.out).1).trans HA5.out)
  have HAV6 := hid (HAV5.out.below hb6)
  have KG := hid (Go_any HG6.out HAV6.out ex_nx 0 (-1) (by decide) (by decide))
  rw [ex_go1] at KG
  clear c0 c1 c2 c3 c4 a0 a1 q0 q1 hE hb6
  have c0 : w6.cell? ⟨w.heap.size + 1 + 1 + 1 + 1, 0, none⟩ = some (.slice (some ⟨w.heap.size, 0, none⟩) 1 1) := Lib.cell_of_heap HN6.out 0
  have c1 : w6.cell? ⟨w.heap.size + 1 + 1 + 1 + 1, 1, none⟩ = some (.slice none 0 0) := Lib.cell_of_heap HN6.out 1
  have c2 : w6.cell? ⟨w.heap.size + 1 + 1 + 1 + 1, 2, none⟩ = some (.slice (some ⟨w.heap.size + 1, 0, none⟩) 1 1) := Lib.cell_of_heap HN6.out 2
  have c3 : w6.cell? ⟨w.heap.size + 1 + 1 + 1 + 1, 3, none⟩ = some (.slice (some ⟨w.heap.size + 1 + 1 + 1, 0, none⟩) 1 1) := Lib.cell_of_heap HN6.out 3
  have c4 : w6.cell? ⟨w.heap.size + 1 + 1 + 1 + 1, 4, none⟩ = some (.int .i64 0) := Lib.cell_of_heap HN6.out 4
  have a0 : w6.cell? ⟨w1.heap.size, 0, none⟩ = some (.slice ko 3 kc) := Lib.cell_of_heap HA6.out 0
  have a1 : w6.cell? ⟨w1.heap.size, 1, none⟩ = some (.slice no 3 nc) := Lib.cell_of_heap HA6.out 1
  go_wp2_with fail
  refine KG.out.mono ?_
  rintro e w7 ⟨rfl, hb7⟩
  have HB7 := hid (HB6.out.trans (hb7.mono HB6.out.size))
  have HG7 := hid (HG6.out.below hb7)
  have HN7 := hid ((hb7.block _ (Array.getElem?_eq_some_iff.1 HN6.out).1).trans HN6.out)
  have HA7 := hid ((hb7.block _ (Array.getElem?_eq_some_iff.1 HA6.out).1).trans HA6.out)
  have HAV7 := hid (HAV6.out.below hb7)
  have KG := hid (Go_any HG7.out HAV7.out ex_nx 1 0 (by decide) (by decide))
  rw [ex_go2] at KG
  clear c0 c1 c2 c3 c4 a0 a1 hb7
  have c0 : w7.cell? ⟨w.heap.size + 1 + 1 + 1 + 1, 0, none⟩ = some (.slice (some ⟨w.heap.size, 0, none⟩) 1 1) := Lib.cell_of_heap HN7.out 0
  have c1 : w7.cell? ⟨w.heap.size + 1 + 1 + 1 + 1, 1, none⟩ = some (.slice none 0 0) := Lib.cell_of_heap HN7.out 1
  have c2 : w7.cell? ⟨w.heap.size + 1 + 1 + 1 + 1, 2, none⟩ = some (.slice (some ⟨w.heap.size + 1, 0, none⟩) 1 1) := Lib.cell_of_heap HN7.out 2
  have c3 : w7.cell? ⟨w.heap.size + 1 + 1 + 1 + 1, 3, none⟩ = some (.slice (some ⟨w.heap.size + 1 + 1 + 1, 0, none⟩) 1 1) := Lib.cell_of_heap HN7.out 3
  have c4 : w7.cell? ⟨w.heap.size + 1 + 1 + 1 + 1, 4, none⟩ = some (.int .i64 0) := Lib.cell_of_heap HN7.out 4
  have a0 : w7.cell? ⟨w1.heap.size, 0, none⟩ = some (.slice ko 3 kc) := Lib.cell_of_heap HA7.out 0
  have a1 : w7.cell? ⟨w1.heap.size, 1, none⟩ = some (.slice no 3 nc) := Lib.cell_of_heap HA7.out 1
  go_wp2_with fail
  refine KG.out.mono ?_
  rintro e w8 ⟨rfl, hb8⟩
  have HB8 := hid (HB7.out.trans (hb8.mono HB7.out.size))
  clear c0 c1 c2 c3 c4 a0 a1 hb8
  go_wp2_with fail
  go_ret
  exact ⟨rfl, HB8.out⟩
end Go.Proofs.YtjpbhbfklkipkaaDoor
