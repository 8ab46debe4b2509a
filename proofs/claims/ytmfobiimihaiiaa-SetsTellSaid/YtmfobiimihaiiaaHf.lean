/- sets.Follow. -/
import Derived.Test.YtmfobiimihaiiaaHz
namespace Go.Proofs.Ytmfobiimihaiiaa
open Go Go.RowKit Go.Lib Go.Joins

theorem Follow_not {G : GD} {gv tv ov sv pv : Value} {tf : Nat → Nat → Value} {rv : Nat → Value} {w : World} (h : GrAt w gv G tv ov sv pv tf rv) (hV : validB G = false) :
    Calls Try.prog 19 #[gv] w fun e W' => e = .returned (.slice none 0 0) ∧ Below w.heap.size w W' := by
  obtain ⟨W1, B, hW1, hB, c0, c1, c2, c3, c4, hG, hb, hsz⟩ := gr_box h
  subst hB
  have kv := Valid_any hG
  rw [hV] at kv
  have hgv := h.eq
  subst hgv
  go_enter Try.func19, Try.ntmps19
  go_wp2_with fail
  rw [← hW1]
  clear hW1
  refine kv.mono ?_
  rintro e w1 ⟨rfl, hB1⟩
  go_wp2_with fail
  go_ret
  exact ⟨rfl, hb.trans (hB1.mono hsz)⟩

set_option maxRecDepth 100000 in
set_option maxHeartbeats 2000000 in
theorem Follow_any {G : GD} {gv tv ov sv pv : Value} {tf : Nat → Nat → Value} {rv : Nat → Value} {w : World} (h : GrAt w gv G tv ov sv pv tf rv) (hV : validB G = true) :
    Calls Try.prog 19 #[gv] w fun e W' =>
      ∃ lb E F L, e = .returned (.slice (some ⟨lb, 0, none⟩) G.sorts.length G.sorts.length) ∧ Least false G.prods G.sorts.length E ∧ LeastS (evF G.terms.length E G.prods) G.sorts.length F ∧
        LeastS (evW G.terms.length E F G.start G.prods) G.sorts.length L ∧ W'.heap[lb]? = some (.cells (sets L) 30) ∧ w.heap.size ≤ lb ∧ Below w.heap.size w W' := by
  obtain ⟨W1, B, hW1, hB, c0, c1, c2, c3, c4, hG, hb, hsz⟩ := gr_box h
  subst hB
  have kv := Valid_any hG
  rw [hV] at kv
  have kn := hid fun (W' : World) (hb : Below W1.heap.size W1 W') => newRows_any (hG.mono hb) hV
  have hgv := h.eq
  have hs := h.sorts
  subst hgv
  obtain ⟨sa, sc, rfl, hsn, _⟩ := hs
  obtain ⟨n60, s60, p120⟩ := valid_few hV
  have HV := hid hV
  clear hV
  have hz1 : w.heap.size < W1.heap.size := by rw [hW1]; simp
  generalize hns : G.sorts.length = ns at *
  generalize hnt : G.terms.length = nt at *
  go_enter Try.func19, Try.ntmps19
  go_wp2_with fail
  rw [← hW1]
  clear hW1
  refine kv.mono ?_
  rintro e w1 ⟨rfl, hB1⟩
  have d0 := cell_below hB1 c0
  have d1 := cell_below hB1 c1
  have d2 := cell_below hB1 c2
  have d3 := cell_below hB1 c3
  have d4 := cell_below hB1 c4
  go_wp2_with fail
  refine (kn.out _ hB1).mono ?_
  rintro e w2 ⟨eb, fb, E, F, rfl, h1, h2, h3, h4, h5, h6, h7⟩
  have f0 := cell_below h7 d0
  have f1 := cell_below h7 d1
  have f2 := cell_below h7 d2
  have f3 := cell_below h7 d3
  have f4 := cell_below h7 d4
  have km := made_sets ns (by omega)
  have i0 : (0 : Int) ≤ (ns : Int) := by omega
  clear d0 d1 d2 d3 d4 c0 c1 c2 c3 c4
  obtain ⟨w3, hw3⟩ : ∃ w3, w3 = w2.alloc (.cells #[.int .i64 (nt : Int), .slice (some ⟨eb, 0, none⟩) ns ns, .slice (some ⟨fb, 0, none⟩) ns ns] 55) := ⟨_, rfl⟩
  have hB3 : Below w2.heap.size w2 w3 := by rw [hw3]; exact (Below.refl _ _).alloc (Nat.le_refl _) _
  have hz3 : w3.heap.size = w2.heap.size + 1 := by rw [hw3]; simp
  have hBr : w3.heap[w2.heap.size]? = some (.cells #[.int .i64 (nt : Int), .slice (some ⟨eb, 0, none⟩) ns ns, .slice (some ⟨fb, 0, none⟩) ns ns] 55) := by rw [hw3]; exact new_block w2 _
  have g2 := cell_alloc (o := .cells #[.int .i64 (nt : Int), .slice (some ⟨eb, 0, none⟩) ns ns, .slice (some ⟨fb, 0, none⟩) ns ns] 55) f2
  obtain ⟨w4, hw4⟩ : ∃ w4, w4 = (w3.alloc (.cells (sets (List.replicate ns 0)) 30)).alloc (.cells #[.slice (some ⟨w3.heap.size, 0, none⟩) ns ns] 36) := ⟨_, rfl⟩
  have hB4 : Below w3.heap.size w3 w4 := by rw [hw4]; exact ((Below.refl _ _).alloc (Nat.le_refl _) _).alloc (by simp) _
  have hlb : w4.heap[w3.heap.size]? = some (.cells (sets (List.replicate ns 0)) 30) := by rw [hw4]; exact heap_al (new_block w3 _)
  have hBv : w4.heap[w3.heap.size + 1]? = some (.cells #[.slice (some ⟨w3.heap.size, 0, none⟩) ns ns] 36) := by rw [hw4]; exact new_block2 w3 _ _
  have hz4 := hB4.size
  have hz2 := hB1.size
  have hz5 := h7.size
  have kk3 := cell_below hB3 f3
  have kk4 := cell_below hB3 f4
  have hG3 := hG.mono (hB1.trans ((h7.mono hz2).trans (hB3.mono (by omega))))
  have KG := (growS (W := w4) (lb := w3.heap.size) (n := ns) (tf := 36) (caps := #[.pointer (some ⟨w.heap.size, 0, none⟩), .pointer (some ⟨w2.heap.size, 0, none⟩), .pointer (some ⟨w3.heap.size + 1, 0, none⟩)]) (evs := evW nt E F G.start G.prods) (fun _ _ => rfl) hlb
    (hid fun W' Bl Bj Bc L hF hS hLt hBc => by
      have hnv : ¬ (w3.heap.size + 1 = w3.heap.size) := by omega
      have := passW (lb := w3.heap.size) (Bc := Bc) (Bl := Bl) (Bj := Bj) (Bg := w.heap.size) (Br := w2.heap.size) (Bv := w3.heap.size + 1) (w0 := w3) (E := E) (eb := eb) (F := F) (fb := fb) (W := W') hG3 HV.out kk3 kk4 (heap_keep hB3 h3) (by rw [h1.length, hns]) (heap_keep hB3 h4) (by rw [h2.length, hns]) h2.2.2 (by rw [hns, hnt]; exact hBr)
        (by rw [hns]; exact hF.heap hBv hnv) (hB4.trans (hF.toBelow hz4 (by rintro k rfl; exact Nat.le_refl _))) (by rw [hns]; exact hS) hLt (Nat.le_refl _) (by omega)
      rw [hns, hnt] at this
      simpa using this))
  dsimp only [rowsV]
  have kv4 := cell_of_block hBv 0
  simp only [List.getElem?_toArray, List.getElem?_cons_zero] at kv4
  have HB3 := hB3.trans (hB4.mono hB3.size)
  clear hBr hlb hBv hB3 hB4 f2 f3 f4 f0 f1 kk3 kk4 hG3 hz4
  rw [hz3] at KG kv4 hw4
  rw [hw3] at hw4
  have KG := hid KG
  clear hz3 hw3 w3
  go_upto_region 5 with fail
  rw [← hw4]
  clear hw4
  go_wp2_with fail
  refine KG.out.mono ?_
  rintro e w6 ⟨rfl, L, hL1, hL2, hL3⟩
  go_wp2_with fail
  go_ret
  have hB6 := HB3.trans (hL3.toBelow HB3.size (by rintro k rfl; omega))
  exact ⟨w2.heap.size + 1, E, F, L, rfl, h1, h2, hL1, hL2, by omega, hb.trans ((hB1.mono hsz).trans ((h7.mono (by omega)).trans (hB6.mono (by omega))))⟩

end Go.Proofs.Ytmfobiimihaiiaa
