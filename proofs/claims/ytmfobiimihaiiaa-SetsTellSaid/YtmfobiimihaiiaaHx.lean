/- sets.newRows, First and Of. -/
import Derived.Deep.DeepCutAuto
import Derived.Laws.NewBlocks
import Derived.Test.YtmfobiimihaiiaaHw
namespace Go.Proofs.Ytmfobiimihaiiaa
open Go Go.RowKit Go.Lib Go.Joins

theorem info30 : (Try.prog.info? 30).map (fun i => (i.zero, i.size, i.bytes)) = some (some (.int .u64 0), 1, 8) := by kernel_rfl
theorem made_sets (n : Nat) (hn : n ≤ 1000000) (w : World) : (Instr.makeSlice 36 (.int .i64 (n : Int)) (.int .i64 (n : Int))).run Try.prog w = .ok (.slice (some ⟨w.heap.size, 0, none⟩) n n) (w.alloc (.cells (sets (List.replicate n 0)) 30)) := by
  obtain ⟨i0, hi, hz0, hz1, hz2⟩ := info_parts info30
  have := run_makeSlice (P := Try.prog) (w := w) 36 30 i0 (.int .u64 0) Try.underlying36 hi hz0 .i64 .i64 (n : Int) (n : Int) (by omega) (by omega) (by rw [hz1]; omega) (by rw [hz2]; omega) (by omega)
  rw [this, hz1]
  have e : madeCells (Value.int .u64 0).cells ((n : Int).toNat * 1) = sets (List.replicate n 0) := by
    rw [Int.toNat_natCast, Nat.mul_one]
    refine Array.ext (by simp [madeCells]) fun i h1 h2 => ?_
    simp [madeCells, Value.cells, Nat.mod_one]
  rw [e, Int.toNat_natCast]

theorem heap_al {w : World} {k : Nat} {o o' : Obj} (h : w.heap[k]? = some o) : (w.alloc o').heap[k]? = some o := heap_keep ((Below.refl _ _).alloc (Nat.le_refl _) _) h
theorem heap_set {w : World} {k : Nat} {o : Obj} {p : Addr} {v : Value} (h : w.heap[k]? = some o) (hne : k ≠ p.block) : (w.setCell p v).heap[k]? = some o := (Below.heap_setCell w p v k hne).trans h
theorem new_block2 (w : World) (o o' : Obj) : ((w.alloc o).alloc o').heap[w.heap.size + 1]? = some o' := by
  have := new_block (w.alloc o) o'
  rwa [World.size_alloc] at this
theorem heap_set3 {w : World} {b : Nat} {t : TypeId} {x0 y0 z0 x y z : Value} (h : w.heap[b]? = some (.cells #[x0, y0, z0] t)) :
    (((w.setCell ⟨b, 0, none⟩ x).setCell ⟨b, 1, none⟩ y).setCell ⟨b, 2, none⟩ z).heap[b]? = some (.cells #[x, y, z] t) := by
  have h1 := block_setCell (i := 0) h x
  have h2 := block_setCell (i := 1) h1 y
  have h3 := block_setCell (i := 2) h2 z
  rw [h3]; simp
theorem heap_far3 {w : World} {b k : Nat} {o : Obj} {x y z : Value} (h : w.heap[k]? = some o) (hne : k ≠ b) :
    (((w.setCell ⟨b, 0, none⟩ x).setCell ⟨b, 1, none⟩ y).setCell ⟨b, 2, none⟩ z).heap[k]? = some o := heap_set (heap_set (heap_set h hne) hne) hne
theorem new_set3 (w : World) {b : Nat} {o : Obj} {x y z : Value} :
    ((((w.setCell ⟨b, 0, none⟩ x).setCell ⟨b, 1, none⟩ y).setCell ⟨b, 2, none⟩ z).alloc o).heap[w.heap.size]? = some o := by
  have := new_block (((w.setCell ⟨b, 0, none⟩ x).setCell ⟨b, 1, none⟩ y).setCell ⟨b, 2, none⟩ z) o
  simpa using this
theorem bcell {W w1 : World} (hb : Below W.heap.size W w1) : (∀ b o, b < W.heap.size → w1.cell? ⟨b, o, none⟩ = W.cell? ⟨b, o, none⟩) ∧ (∀ b o, b < W.heap.size → w1.frozen? ⟨b, o, none⟩ = W.frozen? ⟨b, o, none⟩) :=
  ⟨fun b o h => hb.cell (p := ⟨b, o, none⟩) h, fun b o h => hb.frozen (p := ⟨b, o, none⟩) h⟩
theorem below_al {w0 w : World} (h : Below w0.heap.size w0 w) (o : Obj) : Below w0.heap.size w0 (w.alloc o) := h.alloc h.size o

set_option maxRecDepth 100000 in
set_option maxHeartbeats 2000000 in
theorem newRows_any {G : GD} {gv tv ov sv pv : Value} {tf : Nat → Nat → Value} {rv : Nat → Value} {w : World} (h : GrAt w gv G tv ov sv pv tf rv) (hV : validB G = true) :
    Calls Try.prog 31 #[gv] w fun e W' =>
      ∃ eb fb E F, e = .returned (rowsV G.terms.length eb fb G.sorts.length) ∧ Least false G.prods G.sorts.length E ∧ LeastS (evF G.terms.length E G.prods) G.sorts.length F ∧
        W'.heap[eb]? = some (.cells (E.map Value.bool).toArray 4) ∧ W'.heap[fb]? = some (.cells (sets F) 30) ∧ w.heap.size ≤ eb ∧ w.heap.size ≤ fb ∧ Below w.heap.size w W' := by
  have hs := h.sorts
  have ht := h.terms
  have hgv := h.eq
  subst hgv
  obtain ⟨sa, sc, rfl, hsn, _⟩ := hs
  obtain ⟨ta, tc, rfl, htn, _⟩ := ht
  obtain ⟨n60, s60, p120⟩ := valid_few hV
  obtain ⟨w0, hw0⟩ : ∃ w0, w0 = (w.alloc (.cells #[.slice ta G.terms.length tc, ov, .slice sa G.sorts.length sc, pv, .int .i64 G.start] 27)).alloc (.cells #[.int .i64 0, .slice none 0 0, .slice none 0 0] 55) := ⟨_, rfl⟩
  have hB0 : Below w.heap.size w w0 := by rw [hw0]; exact ((Below.refl _ _).alloc (Nat.le_refl _) _).alloc (by simp) _
  have b1 : w0.heap[w.heap.size]? = some (.cells #[.slice ta G.terms.length tc, ov, .slice sa G.sorts.length sc, pv, .int .i64 G.start] 27) := by
    rw [hw0]; exact (Below.heap_alloc _ _ _ (by simp)).trans (new_block w _)
  have b2 : w0.heap[w.heap.size + 1]? = some (.cells #[.int .i64 0, .slice none 0 0, .slice none 0 0] 55) := by
    rw [hw0]
    have := new_block (w.alloc (.cells #[.slice ta G.terms.length tc, ov, .slice sa G.sorts.length sc, pv, .int .i64 G.start] 27)) (.cells #[.int .i64 0, .slice none 0 0, .slice none 0 0] 55)
    rwa [World.size_alloc] at this
  have hG := h.mono hB0
  have q0 := cell_of_block b1 0
  have q1 := cell_of_block b1 1
  have q2 := cell_of_block b1 2
  have q3 := cell_of_block b1 3
  have q4 := cell_of_block b1 4
  have s0 : w0.heap.size = w.heap.size + 2 := by rw [hw0]; simp
  simp only [List.getElem?_toArray, List.getElem?_cons_zero, List.getElem?_cons_succ] at q0 q1 q2 q3 q4
  have kE : Hid (∀ W', Below w0.heap.size w0 W' → Calls Try.prog 12 #[.agg #[.slice ta G.terms.length tc, ov, .slice sa G.sorts.length sc, pv, .int .i64 G.start]] W' fun e W'' =>
      ∃ lb L, e = .returned (.slice (some ⟨lb, 0, none⟩) G.sorts.length G.sorts.length) ∧ Least false G.prods G.sorts.length L ∧ W''.heap[lb]? = some (.cells (L.map Value.bool).toArray 4) ∧ W'.heap.size ≤ lb ∧ Below W'.heap.size W' W'' ∧ Below w0.heap.size w0 W'') :=
    fun W' hb => (Empty_any (hG.mono hb) hV).mono fun e W'' ⟨lb, L, h1, h2, h3, h4, h5⟩ => ⟨lb, L, h1, h2, h3, h4, h5, hb.trans (h5.mono hb.size)⟩
  have km := made_sets G.sorts.length (by omega)
  have i0 : (0 : Int) ≤ (G.sorts.length : Int) := by omega
  have HB2 := hid b2
  have HB1 := hid b1
  have S0 := hid s0
  clear b2 s0 b1
  generalize hns : G.sorts.length = ns at *
  generalize hnt : G.terms.length = nt at *
  generalize hst : G.start = st at *
  go_enter Try.func31, Try.ntmps31
  go_upto_region 1 with fail
  rw [← hw0]
  clear hw0
  generalize hBg : w.heap.size = Bg at *
  go_cut [3] (fun s3 wx => ∃ Br eb lb E, s3 = .pointer (some ⟨Br, 0, none⟩) ∧ wx.heap[Br]? = some (.cells #[.int .i64 (nt : Int), .slice (some ⟨eb, 0, none⟩) ns ns, .slice (some ⟨lb, 0, none⟩) ns ns] 55) ∧
    Least false G.prods ns E ∧ wx.heap[eb]? = some (.cells (E.map Value.bool).toArray 4) ∧ wx.heap[lb]? = some (.cells (sets (List.replicate ns 0)) 30) ∧ eb ≠ lb ∧ w0.heap.size ≤ eb ∧ w0.heap.size ≤ lb ∧ w0.heap.size ≤ Br ∧ Below w0.heap.size w0 wx)
  case first =>
    go_region_held3 (fun w' => w'.cell? ⟨Bg, 0, none⟩ = some (.slice ta nt tc) ∧ w'.cell? ⟨Bg, 1, none⟩ = some ov ∧ w'.cell? ⟨Bg, 2, none⟩ = some (.slice sa ns sc) ∧ w'.cell? ⟨Bg, 3, none⟩ = some pv ∧ w'.cell? ⟨Bg, 4, none⟩ = some (.int .i64 st))
      ((go_split_ands; first | (refine ⟨cell_below ?_ q0, cell_below ?_ q1, cell_below ?_ q2, cell_below ?_ q3, cell_below ?_ q4⟩ <;> (repeat' (first | assumption | exact Below.refl _ _ | refine Below.drew ?_ | refine below_al ?_ _ | refine Below.setCell ?_ ?_ _ | (dsimp only; omega) | (simp; omega))); done) | (trace_state; done)))
      ((go_at_call 12; refine (kE.out _ (by (repeat' (first | assumption | exact Below.refl _ _ | refine Below.drew ?_ | refine below_al ?_ _ | refine Below.setCell ?_ ?_ _ | (dsimp only; omega) | (simp; omega))))).mono ?_; rintro e w5 ⟨eb, E, rfl, hE1, hE2, hE3, hE4, hE5⟩; obtain ⟨hc5, hf5⟩ := bcell hE4; have hz5 := hE4.size; simp at hz5; try (have hz6 : w0.heap.size < w5.heap.size := by omega); try (have hz7 : w0.heap.size + 1 < w5.heap.size := by omega)))
    · have hl5 := (Array.getElem?_eq_some_iff.1 hE2).1
      simp at hE3
      go_wp2_with fail
      go_meet
      refine ⟨_, eb, w5.heap.size, E, rfl, ?_, hE1, ?_, ?_, ?_, ?_, ?_, ?_, ?_⟩
      · exact new_block2 _ _ _
      · exact heap_al (heap_al hE2)
      · exact heap_al (new_block _ _)
      · omega
      · omega
      · omega
      · omega
      · exact below_al (below_al hE5 _) _
    · have hl5 := (Array.getElem?_eq_some_iff.1 hE2).1
      simp at hE3
      go_wp2_with fail
      go_meet
      refine ⟨_, eb, (w5.heap.size + 1), E, rfl, ?_, hE1, ?_, ?_, ?_, ?_, ?_, ?_, ?_⟩
      · exact heap_al (new_block _ _)
      · exact heap_al (heap_al hE2)
      · exact new_block2 _ _ _
      · omega
      · omega
      · omega
      · omega
      · exact below_al (below_al hE5 _) _
    · have hl5 := (Array.getElem?_eq_some_iff.1 hE2).1
      simp at hE3
      have hS : w5.heap[w0.heap.size]? = some (.cells (sets (List.replicate ns 0)) 30) := (hE4.block w0.heap.size (by simp)).trans (new_block w0 _)
      go_wp2_with fail
      go_meet
      refine ⟨_, eb, w0.heap.size, E, rfl, ?_, hE1, ?_, ?_, ?_, ?_, ?_, ?_, ?_⟩
      · exact new_block _ _
      · exact heap_al hE2
      · exact heap_al hS
      · omega
      · omega
      · omega
      · omega
      · exact below_al hE5 _
    · have hl5 := (Array.getElem?_eq_some_iff.1 hE2).1
      simp at hE3
      have hS : w5.heap[w0.heap.size]? = some (.cells (sets (List.replicate ns 0)) 30) := (hE4.block w0.heap.size (by simp; omega)).trans (heap_al (new_block w0 _))
      have hR : w5.heap[w0.heap.size + 1]? = some (.cells #[.int .i64 0, .slice none 0 0, .slice none 0 0] 55) := (hE4.block (w0.heap.size + 1) (by simp)).trans (new_block2 w0 _ _)
      go_wp2_with fail
      go_meet
      refine ⟨_, eb, w0.heap.size, E, rfl, ?_, hE1, ?_, ?_, ?_, ?_, ?_, ?_, ?_⟩
      · exact heap_set3 hR
      · exact heap_far3 hE2 (by omega)
      · exact heap_far3 hS (by omega)
      · omega
      · omega
      · omega
      · omega
      · exact ((hE5.setCell (by dsimp only; omega) _).setCell (by dsimp only; omega) _).setCell (by dsimp only; omega) _
    · have hl5 := (Array.getElem?_eq_some_iff.1 hE2).1
      simp at hE3
      have hR : w5.heap[w0.heap.size]? = some (.cells #[.int .i64 0, .slice none 0 0, .slice none 0 0] 55) := (hE4.block w0.heap.size (by simp)).trans (new_block w0 _)
      go_wp2_with fail
      go_meet
      refine ⟨_, eb, w5.heap.size, E, rfl, ?_, hE1, ?_, ?_, ?_, ?_, ?_, ?_, ?_⟩
      · exact heap_al (heap_set3 hR)
      · exact heap_al (heap_far3 hE2 (by omega))
      · exact new_set3 _
      · omega
      · omega
      · omega
      · omega
      · exact below_al (((hE5.setCell (by dsimp only; omega) _).setCell (by dsimp only; omega) _).setCell (by dsimp only; omega) _) _
    · have hl5 := (Array.getElem?_eq_some_iff.1 hE2).1
      simp at hE3
      have hS : w5.heap[w0.heap.size + 1]? = some (.cells (sets (List.replicate ns 0)) 30) := (hE4.block (w0.heap.size + 1) (by simp)).trans (new_block2 w0 _ _)
      have hR : w5.heap[w0.heap.size]? = some (.cells #[.int .i64 0, .slice none 0 0, .slice none 0 0] 55) := (hE4.block w0.heap.size (by simp; omega)).trans (heap_al (new_block w0 _))
      go_wp2_with fail
      go_meet
      refine ⟨_, eb, (w0.heap.size + 1), E, rfl, ?_, hE1, ?_, ?_, ?_, ?_, ?_, ?_, ?_⟩
      · exact heap_set3 hR
      · exact heap_far3 hE2 (by omega)
      · exact heap_far3 hS (by omega)
      · omega
      · omega
      · omega
      · omega
      · exact ((hE5.setCell (by dsimp only; omega) _).setCell (by dsimp only; omega) _).setCell (by dsimp only; omega) _
  case rest =>
    obtain ⟨Br, eb, lb, E, rfl, hBr, hE, heb, hlb, hne, g1, g2, g3, hb⟩ := hcut
    rename_i wc
    have hBl : ¬ (Br = lb) := by
      rintro rfl
      rw [hBr] at hlb
      simp at hlb
    have hel := (Array.getElem?_eq_some_iff.1 heb).1
    have KG := hid (growS (W := wc) (lb := lb) (n := ns) (tf := 52) (caps := #[.pointer (some ⟨Bg, 0, none⟩), .pointer (some ⟨Br, 0, none⟩)]) (evs := evF nt E G.prods) (fun _ _ => rfl) hlb
      (hid fun W' Bl Bj Bc L hF hS hLt hBc => by
        have := passF (lb := lb) (Bc := Bc) (Bl := Bl) (Bj := Bj) (Bg := Bg) (Br := Br) (w0 := w0) (E := E) (eb := eb) hG hV q3 (hF.heap heb hne) (by rintro (h | h) <;> omega) (by rw [hE.length, hns]) (hb.trans (hF.toBelow hb.size (by rintro k rfl; exact g2))) (by rw [hns, hnt]; exact hF.heap hBr hBl) (by rw [hns]; exact hS) hLt g2 (by have := hb.size; omega)
        rw [hns, hnt] at this
        simpa using this))
    clear kE km
    have x0 := cell_of_block hBr 2
    simp only [List.getElem?_toArray, List.getElem?_cons_zero, List.getElem?_cons_succ] at x0
    go_wp2_with fail
    refine KG.out.mono ?_
    rintro e w6 ⟨rfl, F, hF1, hF2, hF3⟩
    have d1 := hF3.heap hBr hBl
    have d2 := hF3.heap (heap_keep hb HB2.out) (by have := S0.out; omega)
    have r0 := cell_of_block d1 0
    have r1 := cell_of_block d1 1
    have r2 := cell_of_block d1 2
    have t0 := cell_of_block d2 0
    have t1 := cell_of_block d2 1
    have t2 := cell_of_block d2 2
    simp only [List.getElem?_toArray, List.getElem?_cons_zero, List.getElem?_cons_succ] at r0 r1 r2 t0 t1 t2
    have f0 := unfrozen_of_block d2 0
    have f1 := unfrozen_of_block d2 1
    have f2 := unfrozen_of_block d2 2
    have e1 := hF3.heap heb hne
    have e2 := hF3.toBelow hb.size (by rintro k rfl; exact g2)
    have hs0 := S0.out
    have ne1 : eb ≠ Bg + 1 := by omega
    have ne2 : lb ≠ Bg + 1 := by omega
    have HE1 := hid (heap_far3 (b := Bg + 1) (x := .int .i64 (nt : Int)) (y := .slice (some ⟨eb, 0, none⟩) ns ns) (z := .slice (some ⟨lb, 0, none⟩) ns ns) e1 ne1)
    have HE2 := hid (heap_far3 (b := Bg + 1) (x := .int .i64 (nt : Int)) (y := .slice (some ⟨eb, 0, none⟩) ns ns) (z := .slice (some ⟨lb, 0, none⟩) ns ns) hF2 ne2)
    have S0' := hid hs0
    have hB6 : Below Bg w w6 := hB0.trans ((hb.trans e2).mono (by omega))
    clear hs0 d1 d2 e1 e2
    go_wp2_with fail
    exact bodyPost_ret (v := rowsV nt eb lb ns) (by simp [results, Try.results31, go_sem, t0, t1, t2]) rfl ⟨eb, lb, E, F, rfl, hE, hF1, HE1.out, HE2.out, by have := S0'.out; omega, by have := S0'.out; omega, by
      rw [hBg]
      exact Below.setCell (p := ⟨Bg + 1, 2, none⟩) (Below.setCell (p := ⟨Bg + 1, 1, none⟩) (Below.setCell (p := ⟨Bg + 1, 0, none⟩) hB6 (Nat.le_succ _) _) (Nat.le_succ _) _) (Nat.le_succ _) _⟩

theorem run_field55 (nt eb fb n : Nat) (w : World) : (Instr.field 55 (.agg #[.int .i64 (nt : Int), .slice (some ⟨eb, 0, none⟩) n n, .slice (some ⟨fb, 0, none⟩) n n]) 2).run Try.prog w = .ok (.slice (some ⟨fb, 0, none⟩) n n) w := rfl

set_option maxRecDepth 100000 in
theorem First_any {G : GD} {gv tv ov sv pv : Value} {tf : Nat → Nat → Value} {rv : Nat → Value} {w : World} (h : GrAt w gv G tv ov sv pv tf rv) (hV : validB G = true) :
    Calls Try.prog 17 #[gv] w fun e W' =>
      ∃ fb E F, e = .returned (.slice (some ⟨fb, 0, none⟩) G.sorts.length G.sorts.length) ∧ Least false G.prods G.sorts.length E ∧ LeastS (evF G.terms.length E G.prods) G.sorts.length F ∧
        W'.heap[fb]? = some (.cells (sets F) 30) ∧ w.heap.size ≤ fb ∧ Below w.heap.size w W' := by
  obtain ⟨W1, B, hW1, hB, c0, c1, c2, c3, c4, hG, hb, hsz⟩ := gr_box h
  subst hB
  have kv := Valid_any hG
  rw [hV] at kv
  have kn := hid fun (W' : World) (hb : Below W1.heap.size W1 W') => newRows_any (hG.mono hb) hV
  have hgv := h.eq
  subst hgv
  go_enter Try.func17, Try.ntmps17
  go_wp2_with fail
  rw [← hW1]
  clear hW1
  refine kv.mono ?_
  rintro e w1 ⟨rfl, hB1⟩
  have d0 := cell_below hB1 c0
  have d1 := cell_below hB1 c1
  have d2 := cell_below hB1 c2
  have d3 := cell_below hB1 c3
  have d4 := cell_below hB1 c4
  go_wp2_with fail
  refine (kn.out _ hB1).mono ?_
  rintro e w2 ⟨eb, fb, E, F, rfl, h1, h2, h3, h4, h5, h6, h7⟩
  have kf := run_field55 G.terms.length eb fb G.sorts.length w2
  go_wp2_with fail
  go_ret
  exact ⟨fb, E, F, rfl, h1, h2, h4, by have := hB1.size; omega, hb.trans ((hB1.mono hsz).trans (h7.mono (by have := hB1.size; omega)))⟩
theorem First_not {G : GD} {gv tv ov sv pv : Value} {tf : Nat → Nat → Value} {rv : Nat → Value} {w : World} (h : GrAt w gv G tv ov sv pv tf rv) (hV : validB G = false) :
    Calls Try.prog 17 #[gv] w fun e W' => e = .returned (.slice none 0 0) ∧ Below w.heap.size w W' := by
  obtain ⟨W1, B, hW1, hB, c0, c1, c2, c3, c4, hG, hb, hsz⟩ := gr_box h
  subst hB
  have kv := Valid_any hG
  rw [hV] at kv
  have hgv := h.eq
  subst hgv
  go_enter Try.func17, Try.ntmps17
  go_wp2_with fail
  rw [← hW1]
  clear hW1
  refine kv.mono ?_
  rintro e w1 ⟨rfl, hB1⟩
  go_wp2_with fail
  go_ret
  exact ⟨rfl, hb.trans (hB1.mono hsz)⟩

set_option maxRecDepth 100000 in
theorem Of_any {G : GD} {gv tv ov sv pv : Value} {tf : Nat → Nat → Value} {rv : Nat → Value} {w : World} (h : GrAt w gv G tv ov sv pv tf rv) (hV : validB G = true) {l : List Int} {lv : Value} {b : Nat} (hl : IntsAt w lv l) (hb0 : b < top) :
    Calls Try.prog 21 #[gv, lv, u64 b] w fun e W' =>
      ∃ E F, e = .returned (u64 (ofRow G.terms.length E F l b)) ∧ Least false G.prods G.sorts.length E ∧ LeastS (evF G.terms.length E G.prods) G.sorts.length F ∧ Below w.heap.size w W' := by
  obtain ⟨W1, B, hW1, hB, c0, c1, c2, c3, c4, hG, hb, hsz⟩ := gr_box h
  subst hB
  have kv := Valid_any hG
  rw [hV] at kv
  have kn := hid fun (W' : World) (hb : Below W1.heap.size W1 W') => newRows_any (hG.mono hb) hV
  have HL := hid (hl.mono hb)
  clear hl
  have hgv := h.eq
  subst hgv
  obtain ⟨la, lc, rfl, hln, hlc⟩ := HL.out.1
  clear hlc
  generalize hll : l.length = ll at *
  go_enter Try.func21, Try.ntmps21
  go_wp2_with fail
  rw [← hW1]
  clear hW1
  refine kv.mono ?_
  rintro e w1 ⟨rfl, hB1⟩
  have d0 := cell_below hB1 c0
  have d1 := cell_below hB1 c1
  have d2 := cell_below hB1 c2
  have d3 := cell_below hB1 c3
  have d4 := cell_below hB1 c4
  go_wp2_with fail
  refine (kn.out _ hB1).mono ?_
  rintro e w2 ⟨eb, fb, E, F, rfl, h1, h2, h3, h4, h5, h6, h7⟩
  have ko := hid (of_any (nt := G.terms.length) (b := b) h3 h4 h1.length h2.length h2.2.2 hb0 (HL.out.mono (hB1.trans (h7.mono hB1.size))))
  go_wp2_with fail
  refine ko.out.mono ?_
  rintro e w3 ⟨rfl, hB3⟩
  go_wp2_with fail
  go_ret
  exact ⟨E, F, rfl, h1, h2, hb.trans ((hB1.mono hsz).trans ((h7.mono (by have := hB1.size; omega)).trans (hB3.mono (by have := hB1.size; have := h7.size; omega))))⟩
theorem Of_not {G : GD} {gv tv ov sv pv : Value} {tf : Nat → Nat → Value} {rv : Nat → Value} {w : World} (h : GrAt w gv G tv ov sv pv tf rv) (hV : validB G = false) {a : Option Addr} {n c b : Nat} :
    Calls Try.prog 21 #[gv, .slice a n c, u64 b] w fun e W' => e = .returned (u64 0) ∧ Below w.heap.size w W' := by
  obtain ⟨W1, B, hW1, hB, c0, c1, c2, c3, c4, hG, hb, hsz⟩ := gr_box h
  subst hB
  have kv := Valid_any hG
  rw [hV] at kv
  have hgv := h.eq
  subst hgv
  go_enter Try.func21, Try.ntmps21
  go_wp2_with fail
  rw [← hW1]
  clear hW1
  refine kv.mono ?_
  rintro e w1 ⟨rfl, hB1⟩
  go_wp2_with fail
  go_ret
  exact ⟨rfl, hb.trans (hB1.mono hsz)⟩

end Go.Proofs.Ytmfobiimihaiiaa
