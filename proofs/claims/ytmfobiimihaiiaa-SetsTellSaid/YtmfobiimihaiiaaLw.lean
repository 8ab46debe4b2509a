/- The document's example of package sets holds. -/
import Derived.Test.YtmfobiimihaiiaaHq
namespace Go.Proofs.Ytmfobiimihaiiaa
open Go Go.RowKit Go.Lib Go.Joins

/-- The example's grammar, laid. -/
def wW (w : World) : World :=
  ((((w.alloc (.cells #[.string ⟨#[97]⟩, .string ⟨#[]⟩, .bool false, .int .i64 0] 51)).alloc (.cells #[.string ⟨#[83]⟩] 9)).alloc (.cells #[.int .i64 0, .int .i64 (-1)] 42)).alloc
    (.cells #[.string ⟨#[112]⟩, .int .i64 0, .slice (some ⟨w.heap.size + 1 + 1, 0, none⟩) 2 2, .int .i64 0, .string ⟨#[113]⟩, .int .i64 0, .slice none 0 0, .int .i64 0] 41)).alloc
    (.cells #[.slice (some ⟨w.heap.size, 0, none⟩) 1 1, .slice none 0 0, .slice (some ⟨w.heap.size + 1, 0, none⟩) 1 1, .slice (some ⟨w.heap.size + 1 + 1 + 1, 0, none⟩) 2 2, .int .i64 0] 27)
theorem wW_size (w : World) : (wW w).heap.size = w.heap.size + 5 := by simp [wW]
theorem wW_below (w : World) : Below w.heap.size w (wW w) := below_al (below_al (below_al (below_al (below_al (Below.refl _ _) _) _) _) _) _
theorem wW_0 (w : World) : (wW w).heap[w.heap.size]? = some (.cells #[.string ⟨#[97]⟩, .string ⟨#[]⟩, .bool false, .int .i64 0] 51) := heap_al (heap_al (heap_al (heap_al (new_block w _))))
theorem wW_1 (w : World) : (wW w).heap[w.heap.size + 1]? = some (.cells #[.string ⟨#[83]⟩] 9) := heap_al (heap_al (heap_al (new_block2 w _ _)))
theorem wW_2 (w : World) : (wW w).heap[w.heap.size + 2]? = some (.cells #[.int .i64 0, .int .i64 (-1)] 42) := by
  have := new_block2 (w.alloc (.cells #[.string ⟨#[97]⟩, .string ⟨#[]⟩, .bool false, .int .i64 0] 51)) (.cells #[.string ⟨#[83]⟩] 9) (.cells #[.int .i64 0, .int .i64 (-1)] 42)
  rw [World.size_alloc] at this
  exact heap_al (heap_al this)
theorem wW_3 (w : World) : (wW w).heap[w.heap.size + 3]? = some (.cells #[.string ⟨#[112]⟩, .int .i64 0, .slice (some ⟨w.heap.size + 1 + 1, 0, none⟩) 2 2, .int .i64 0, .string ⟨#[113]⟩, .int .i64 0, .slice none 0 0, .int .i64 0] 41) := by
  have := new_block2 ((w.alloc (.cells #[.string ⟨#[97]⟩, .string ⟨#[]⟩, .bool false, .int .i64 0] 51)).alloc (.cells #[.string ⟨#[83]⟩] 9)) (.cells #[.int .i64 0, .int .i64 (-1)] 42) (.cells #[.string ⟨#[112]⟩, .int .i64 0, .slice (some ⟨w.heap.size + 1 + 1, 0, none⟩) 2 2, .int .i64 0, .string ⟨#[113]⟩, .int .i64 0, .slice none 0 0, .int .i64 0] 41)
  rw [World.size_alloc, World.size_alloc] at this
  exact heap_al this

theorem gW_at (w : World) : GrAt (wW w) (.agg #[.slice (some ⟨w.heap.size, 0, none⟩) 1 1, .slice none 0 0, .slice (some ⟨w.heap.size + 1, 0, none⟩) 1 1, .slice (some ⟨w.heap.size + 1 + 1 + 1, 0, none⟩) 2 2, .int .i64 0]) gW
    (.slice (some ⟨w.heap.size, 0, none⟩) 1 1) (.slice none 0 0) (.slice (some ⟨w.heap.size + 1, 0, none⟩) 1 1) (.slice (some ⟨w.heap.size + 1 + 1 + 1, 0, none⟩) 2 2)
    (fun _ j => if j = 1 then .string ⟨#[]⟩ else if j = 2 then .bool false else .int .i64 0) (fun i => if i = 0 then .slice (some ⟨w.heap.size + 1 + 1, 0, none⟩) 2 2 else .slice none 0 0) := by
  refine ⟨rfl, ?_, ?_, ?_, ?_, ?_, ?_⟩
  · refine ⟨_, _, rfl, by decide, fun _ => ⟨_, 0, rfl, fun i hi => ?_⟩⟩
    match i, hi with
    | 0, _ => exact ⟨cell_of_block (wW_0 w) 0, cell_of_block (wW_0 w) 1, cell_of_block (wW_0 w) 2, cell_of_block (wW_0 w) 3⟩
  · exact ⟨_, _, rfl, by decide, fun h => absurd h (by decide)⟩
  · refine ⟨_, _, rfl, by decide, fun _ => ⟨_, 0, rfl, fun i hi => ?_⟩⟩
    match i, hi with
    | 0, _ => exact cell_of_block (wW_1 w) 0
  · refine ⟨_, _, rfl, by decide, fun _ => ⟨_, 0, rfl, fun i hi => ?_⟩⟩
    match i, hi with
    | 0, _ => exact ⟨cell_of_block (wW_3 w) 0, cell_of_block (wW_3 w) 1, cell_of_block (wW_3 w) 2, cell_of_block (wW_3 w) 3⟩
    | 1, _ => exact ⟨cell_of_block (wW_3 w) 4, cell_of_block (wW_3 w) 5, cell_of_block (wW_3 w) 6, cell_of_block (wW_3 w) 7⟩
  · intro i hi
    match i, hi with
    | 0, _ =>
      refine ⟨⟨_, _, rfl, by decide, fun _ => ⟨_, 0, rfl, fun i hi => ?_⟩⟩, by decide⟩
      match i, hi with
      | 0, _ => exact cell_of_block (wW_2 w) 0
      | 1, _ => exact cell_of_block (wW_2 w) 1
    | 1, _ => exact ⟨⟨_, _, rfl, by decide, fun h => absurd h (by decide)⟩, by decide⟩
  · intro i hi a n c e
    match i, hi with
    | 0, _ => cases e; decide
    | 1, _ => cases e; decide

abbrev gWV (w : World) : Value := .agg #[.slice (some ⟨w.heap.size, 0, none⟩) 1 1, .slice none 0 0, .slice (some ⟨w.heap.size + 1, 0, none⟩) 1 1, .slice (some ⟨w.heap.size + 1 + 1 + 1, 0, none⟩) 2 2, .int .i64 0]

theorem kW_E (w W : World) (hb : Below (wW w).heap.size (wW w) W) : Calls Try.prog 12 #[gWV w] W fun e W' => ∃ b, e = .returned (.slice (some ⟨b, 0, none⟩) 1 1) ∧ W'.cell? ⟨b, 0, none⟩ = some (.bool true) ∧ Below W.heap.size W W' :=
  (Empty_any ((gW_at w).mono hb) gW_valid).mono fun e W' ⟨b, L, h1, h2, h3, h4, h5⟩ => ⟨b, h1, by rw [leastW_E h2] at h3; exact cell_of_block h3 0, h5⟩
theorem kW_L (w W : World) (hb : Below (wW w).heap.size (wW w) W) : Calls Try.prog 14 #[gWV w] W fun e W' => ∃ b, e = .returned (.slice (some ⟨b, 0, none⟩) 1 1) ∧ W'.cell? ⟨b, 0, none⟩ = some (.bool true) ∧ Below W.heap.size W W' :=
  (Lives_any ((gW_at w).mono hb) gW_valid).mono fun e W' ⟨b, L, h1, h2, h3, h4, h5⟩ => ⟨b, h1, by rw [leastW_E h2] at h3; exact cell_of_block h3 0, h5⟩
theorem kW_F (w W : World) (hb : Below (wW w).heap.size (wW w) W) : Calls Try.prog 17 #[gWV w] W fun e W' => ∃ b, e = .returned (.slice (some ⟨b, 0, none⟩) 1 1) ∧ W'.cell? ⟨b, 0, none⟩ = some (.int .u64 1) ∧ Below W.heap.size W W' :=
  (First_any ((gW_at w).mono hb) gW_valid).mono fun e W' ⟨b, E, F, h1, h2, h3, h4, h5, h6⟩ => ⟨b, h1, by
    obtain rfl := leastW_E h2
    obtain rfl := leastW_F h3
    exact cell_of_block h4 0, h6⟩
theorem kW_W (w W : World) (hb : Below (wW w).heap.size (wW w) W) : Calls Try.prog 19 #[gWV w] W fun e W' => ∃ b, e = .returned (.slice (some ⟨b, 0, none⟩) 1 1) ∧ W'.cell? ⟨b, 0, none⟩ = some (.int .u64 9223372036854775808) ∧ Below W.heap.size W W' :=
  (Follow_any ((gW_at w).mono hb) gW_valid).mono fun e W' ⟨b, E, F, L, h1, h2, h3, h4, h5, h6, h7⟩ => ⟨b, h1, by
    obtain rfl := leastW_E h2
    obtain rfl := leastW_F h3
    obtain rfl := leastW_W h4
    exact cell_of_block h5 0, h7⟩
theorem kW_O (w W : World) (hb : Below (wW w).heap.size (wW w) W) {b : Nat} (hc : W.cell? ⟨b, 0, none⟩ = some (.int .i64 (-1))) : Calls Try.prog 21 #[gWV w, .slice (some ⟨b, 0, none⟩) 1 1, .int .u64 4] W fun e W' => e = .returned (.int .u64 5) ∧ Below W.heap.size W W' :=
  (Of_any (b := 4) (l := [-1]) ((gW_at w).mono hb) gW_valid ⟨⟨_, _, rfl, by decide, fun _ => ⟨b, 0, rfl, fun i hi => by
    match i, hi with
    | 0, _ => exact hc⟩⟩, by decide⟩ (by decide)).mono fun e W' ⟨E, F, h1, h2, h3, h4⟩ => ⟨by
    obtain rfl := leastW_E h2
    obtain rfl := leastW_F h3
    exact h1, h4⟩

set_option maxRecDepth 100000 in
set_option maxHeartbeats 1000000 in
theorem works_any (w : World) : Calls Try.prog 10 #[] w fun e w' => e = .returned (.bool true) ∧ Below w.heap.size w w' := by
  have hB := wW_below w
  have hz := wW_size w
  have b4 : (wW w).heap[w.heap.size + 1 + 1 + 1 + 1]? = some (.cells #[.slice (some ⟨w.heap.size, 0, none⟩) 1 1, .slice none 0 0, .slice (some ⟨w.heap.size + 1, 0, none⟩) 1 1, .slice (some ⟨w.heap.size + 1 + 1 + 1, 0, none⟩) 2 2, .int .i64 0] 27) := by
    have := new_block (((w.alloc (.cells #[.string ⟨#[97]⟩, .string ⟨#[]⟩, .bool false, .int .i64 0] 51)).alloc (.cells #[.string ⟨#[83]⟩] 9)).alloc (.cells #[.int .i64 0, .int .i64 (-1)] 42) |>.alloc
      (.cells #[.string ⟨#[112]⟩, .int .i64 0, .slice (some ⟨w.heap.size + 1 + 1, 0, none⟩) 2 2, .int .i64 0, .string ⟨#[113]⟩, .int .i64 0, .slice none 0 0, .int .i64 0] 41)) (.cells #[.slice (some ⟨w.heap.size, 0, none⟩) 1 1, .slice none 0 0, .slice (some ⟨w.heap.size + 1, 0, none⟩) 1 1, .slice (some ⟨w.heap.size + 1 + 1 + 1, 0, none⟩) 2 2, .int .i64 0] 27)
    rw [World.size_alloc, World.size_alloc, World.size_alloc, World.size_alloc] at this
    exact this
  have c0 := cell_of_block b4 0
  have c1 := cell_of_block b4 1
  have c2 := cell_of_block b4 2
  have c3 := cell_of_block b4 3
  have c4 := cell_of_block b4 4
  simp only [List.getElem?_toArray, List.getElem?_cons_zero, List.getElem?_cons_succ] at c0 c1 c2 c3 c4
  have kE := hid (kW_E w)
  have kL := hid (kW_L w)
  have kF := hid (kW_F w)
  have kW := hid (kW_W w)
  have kO := hid (@kW_O w)
  have HZ := hid hz
  clear b4 hz
  obtain ⟨w0, hw0⟩ : ∃ w0, w0 = wW w := ⟨_, rfl⟩
  rw [← hw0] at hB c0 c1 c2 c3 c4 kE kL kF kW kO HZ
  go_enter Try.func10, Try.ntmps10
  go_upto_region 2 with fail
  unfold wW at hw0
  rw [← hw0]
  clear hw0
  go_wp2_with fail
  refine (kE.out _ (Below.refl _ _)).mono ?_
  rintro e w1 ⟨b1, rfl, e1, B1⟩
  have HB1 := B1
  replace c0 := cell_below B1 c0
  replace c1 := cell_below B1 c1
  replace c2 := cell_below B1 c2
  replace c3 := cell_below B1 c3
  replace c4 := cell_below B1 c4
  go_wp2_with fail
  refine (kF.out _ HB1).mono ?_
  rintro e w2 ⟨b2, rfl, e2, B2⟩
  replace HB1 := HB1.trans (B2.mono HB1.size)
  replace c0 := cell_below B2 c0
  replace c1 := cell_below B2 c1
  replace c2 := cell_below B2 c2
  replace c3 := cell_below B2 c3
  replace c4 := cell_below B2 c4
  replace e1 := cell_below B2 e1
  go_wp2_with fail
  refine (kW.out _ HB1).mono ?_
  rintro e w3 ⟨b3, rfl, e3, B3⟩
  replace HB1 := HB1.trans (B3.mono HB1.size)
  replace c0 := cell_below B3 c0
  replace c1 := cell_below B3 c1
  replace c2 := cell_below B3 c2
  replace c3 := cell_below B3 c3
  replace c4 := cell_below B3 c4
  replace e1 := cell_below B3 e1
  replace e2 := cell_below B3 e2
  go_wp2_with fail
  refine (kL.out _ HB1).mono ?_
  rintro e w4 ⟨b4, rfl, e4, B4⟩
  replace HB1 := HB1.trans (B4.mono HB1.size)
  replace c0 := cell_below B4 c0
  replace c1 := cell_below B4 c1
  replace c2 := cell_below B4 c2
  replace c3 := cell_below B4 c3
  replace c4 := cell_below B4 c4
  replace e1 := cell_below B4 e1
  replace e2 := cell_below B4 e2
  replace e3 := cell_below B4 e3
  clear B1 B2 B3 B4
  go_wp2_with fail
  refine (kO.out _ (below_al HB1 _) (b := w4.heap.size) (by simp)).mono ?_
  rintro e w5 ⟨rfl, B5⟩
  have HB5 := (below_al HB1 (.cells #[.int .i64 (-1)] 42)).trans (B5.mono (below_al HB1 _).size)
  clear B5 HB1
  go_wp2_with fail
  go_ret
  exact ⟨rfl, hB.trans (HB5.mono (by have := HZ.out; omega))⟩

end Go.Proofs.Ytmfobiimihaiiaa
