/- sets.grow, of truths. -/
import Derived.Test.YtmfobiimihaiiaaGg
namespace Go.Proofs.Ytmfobiimihaiiaa
open Go Go.RowKit Go.Lib Go.Joins

theorem new_block (w : World) (o : Obj) : (w.alloc o).heap[w.heap.size]? = some o := by
  show (w.heap.push o)[w.heap.size]? = _
  simp

set_option maxRecDepth 100000 in
set_option maxHeartbeats 2000000 in
theorem growE {G : GD} {gv tv ov sv pv : Value} {tf : Nat → Nat → Value} {rv : Nat → Value} {w0 W : World} {Bg Bi Be lb : Nat} (hG : GrAt w0 gv G tv ov sv pv tf rv) (hV : validB G = true)
    (hbox : w0.cell? ⟨Bg, 3, none⟩ = some pv) (his : w0.cell? ⟨Bi, 0, none⟩ = some (.func (.func 28) #[] #[])) (h0 : Below w0.heap.size w0 W)
    (hBe : W.heap[Be]? = some (.cells #[.slice (some ⟨lb, 0, none⟩) G.sorts.length G.sorts.length] 33)) (hl : W.heap[lb]? = some (.cells ((List.replicate G.sorts.length false).map Value.bool).toArray 4)) (g1 : w0.heap.size ≤ lb) :
    Calls Try.prog 49 #[.slice (some ⟨lb, 0, none⟩) G.sorts.length G.sorts.length, .func (.func 50) #[] #[], .func (.func 51) #[] #[.pointer (some ⟨Bg, 0, none⟩), .pointer (some ⟨Bi, 0, none⟩), .pointer (some ⟨Be, 0, none⟩)]] W fun e W' =>
      e = .returned (.slice (some ⟨lb, 0, none⟩) G.sorts.length G.sorts.length) ∧ ∃ L, Least false G.prods G.sorts.length L ∧ W'.heap[lb]? = some (.cells (L.map Value.bool).toArray 4) ∧ Far (fun k => k = lb) W W' := by
  have pass := hid (fun (W : World) (h0 : Below w0.heap.size w0 W) hBe {Bl Bj Bc : Nat} {L : List Bool} hS g2 => passE (W := W) (Bg := Bg) (Bi := Bi) (Be := Be) (lb := lb) (Bl := Bl) (Bj := Bj) (Bc := Bc) (L := L) hG hV hbox his h0 hBe hS g1 g2)
  have hlb : lb < W.heap.size := (Array.getElem?_eq_some_iff.1 hl).1
  have hw0 := h0.size
  clear hbox his hV
  generalize hns : G.sorts.length = ns at *
  go_enter Try.func49, Try.ntmps49
  go_wp2
  obtain ⟨W2, hW2⟩ : ∃ W2, W2 = (W.alloc (.cells #[.slice (some ⟨lb, 0, none⟩) ns ns] 33)).alloc (.cells #[.func (.func 50) #[] #[]] 75) := ⟨_, rfl⟩
  have hB2 : Below W.heap.size W W2 := by rw [hW2]; exact ((Below.refl _ _).alloc (Nat.le_refl _) _).alloc (by simp) _
  have b1 : W2.heap[W.heap.size]? = some (.cells #[.slice (some ⟨lb, 0, none⟩) ns ns] 33) := by
    rw [hW2]; exact (Below.heap_alloc _ _ _ (by simp)).trans (new_block W _)
  have b2 : W2.heap[W.heap.size + 1]? = some (.cells #[.func (.func 50) #[] #[]] 75) := by
    rw [hW2]
    have := new_block (W.alloc (.cells #[.slice (some ⟨lb, 0, none⟩) ns ns] 33)) (.cells #[.func (.func 50) #[] #[]] 75)
    rwa [World.size_alloc] at this
  have b3 := (hB2.block lb hlb).trans hl
  have b4 := (hB2.block Be (Array.getElem?_eq_some_iff.1 hBe).1).trans hBe
  have s2 := hB2.size
  rw [← hW2]
  clear hW2
  have hbl : W.heap.size ≠ lb := by omega
  generalize hBl : W.heap.size = Bl at *
  refine wp_scope_label (fun a' w' => ∃ (u7 u8 u9 u10 u11 u12 : Value), a' = { tmps := #[.slice (some ⟨lb, 0, none⟩) ns ns, .func (.func 50) #[] #[], .func (.func 51) #[] #[.pointer (some ⟨Bg, 0, none⟩), .pointer (some ⟨Bi, 0, none⟩), .pointer (some ⟨Be, 0, none⟩)], .pointer (some ⟨Bl, 0, none⟩), .pointer (some ⟨Bl + 1, 0, none⟩), undef, .slice none 0 0, u7, u8, u9, u10, u11, u12], defers := [] } ∧
      ∃ L, w'.heap[lb]? = some (.cells (L.map Value.bool).toArray 4) ∧ L.length = ns ∧ w'.heap[Bl]? = some (.cells #[.slice (some ⟨lb, 0, none⟩) ns ns] 33) ∧ w'.heap[Bl + 1]? = some (.cells #[.func (.func 50) #[] #[]] 75) ∧
        w'.heap[Be]? = some (.cells #[.slice (some ⟨lb, 0, none⟩) ns ns] 33) ∧ Reach false G.prods (List.replicate ns false) L ∧ Far (fun k => k = lb) W w')
    (fun _ w' => falses w'.heap[lb]?) ?_ ?_
  · exact ⟨_, _, _, _, _, _, rfl, _, b3, by simp, b1, b2, b4, .refl, (Far.ofBelow (by rw [hBl]; exact hB2))⟩
  · clear b1 b2 b3 b4 s2 hB2 hl hBe
    rintro a' w' ⟨u7, u8, u9, u10, u11, u12, rfl, L, b3, hL, b1, b2, b4, hR, hF⟩
    have hwb := h0.trans (hF.toBelow (by omega) (by rintro k rfl; omega))
    have hw2 := hwb.size
    obtain ⟨w1, hw1⟩ : ∃ w1, w1 = w'.alloc (.cells #[.bool false] 4) := ⟨_, rfl⟩
    have hB1 : Below w'.heap.size w' w1 := by rw [hw1]; exact (Below.refl _ _).alloc (Nat.le_refl _) _
    have kp : ∀ {b : Nat} {o : Obj}, w'.heap[b]? = some o → w1.heap[b]? = some o := fun ho => (hB1.block _ (Array.getElem?_eq_some_iff.1 ho).1).trans ho
    have c4 : w1.heap[w'.heap.size]? = some (.cells #[.bool false] 4) := by rw [hw1]; exact new_block w' _
    have hlt := (Array.getElem?_eq_some_iff.1 b3).1
    have HP := hid (pass.out w1 (hwb.trans (hB1.mono hw2)) (kp b4) (Bl := Bl) (Bj := Bl + 1) (Bc := w'.heap.size) (L := L) ⟨kp b3, kp b1, kp b2, c4, hL, by omega⟩ (by omega))
    have fl := falses_list L 4 (0, 0)
    have HB := hid b3
    have HE := hid (kp b4)
    have HB1 := hid (kp b3)
    have HR := hid hR
    have hbl2 := (Array.getElem?_eq_some_iff.1 b1).1
    have hbl3 := (Array.getElem?_eq_some_iff.1 b2).1
    have hbl4 := (Array.getElem?_eq_some_iff.1 b4).1
    have hW1 : Far (fun k => k = lb) W w1 := hF.on (Far.ofBelow (S := fun _ => False) hB1) (fun i h => h.elim)
    clear hR b1 b2 b3 b4 c4 hB1 hL
    go_wp2_with fail
    rw [← hw1]
    clear hw1
    refine HP.out.mono ?_
    rintro e w2 ⟨⟨v, rfl⟩, L', c, hS, hFF, hPa⟩
    have d1 := cell_of_block hS.chg 0
    have d2 := cell_of_block hS.var 0
    simp only [List.getElem?_toArray, List.getElem?_cons_zero] at d1 d2
    have hF2 : Far (fun k => k = lb) W w2 := hW1.on hFF (by
      rintro i (rfl | rfl)
      · exact .inl rfl
      · right; have := hF.size; omega)
    have nB : ¬ (Be = lb ∨ Be = w'.heap.size) := by
      rintro (h | h)
      · have h1 := HE.out
        have h2 := HB1.out
        rw [h, h2] at h1
        simp at h1
      · omega
    have e4 := hFF.heap HE.out nB
    cases c
    · obtain ⟨rfl, hcl⟩ := passed_closed hPa
      go_wp2
      simp only [Exit.jump]
      go_ret
      exact ⟨rfl, _, ⟨HR.out, hcl⟩, hS.list, hF2⟩
    · go_wp2
      go_step3
      refine ⟨rfl, ⟨_, _, _, _, _, _, rfl, L', hS.list, hS.len, hS.var, hS.join, e4, reach_trans HR.out hPa.1, hF2⟩, ?_⟩
      rw [hS.list, HB.out, falses_list, falses_list]
      exact hPa.2.2.2.1 rfl

set_option maxRecDepth 100000 in
set_option maxHeartbeats 2000000 in
theorem growL {G : GD} {gv tv ov sv pv : Value} {tf : Nat → Nat → Value} {rv : Nat → Value} {w0 W : World} {Bg Bi Be lb : Nat} (hG : GrAt w0 gv G tv ov sv pv tf rv) (hV : validB G = true)
    (hbox : w0.cell? ⟨Bg, 3, none⟩ = some pv) (his : w0.cell? ⟨Bi, 0, none⟩ = some (.func (.func 30) #[] #[])) (h0 : Below w0.heap.size w0 W)
    (hBe : W.heap[Be]? = some (.cells #[.slice (some ⟨lb, 0, none⟩) G.sorts.length G.sorts.length] 33)) (hl : W.heap[lb]? = some (.cells ((List.replicate G.sorts.length false).map Value.bool).toArray 4)) (g1 : w0.heap.size ≤ lb) :
    Calls Try.prog 49 #[.slice (some ⟨lb, 0, none⟩) G.sorts.length G.sorts.length, .func (.func 50) #[] #[], .func (.func 51) #[] #[.pointer (some ⟨Bg, 0, none⟩), .pointer (some ⟨Bi, 0, none⟩), .pointer (some ⟨Be, 0, none⟩)]] W fun e W' =>
      e = .returned (.slice (some ⟨lb, 0, none⟩) G.sorts.length G.sorts.length) ∧ ∃ L, Least true G.prods G.sorts.length L ∧ W'.heap[lb]? = some (.cells (L.map Value.bool).toArray 4) ∧ Far (fun k => k = lb) W W' := by
  have pass := hid (fun (W : World) (h0 : Below w0.heap.size w0 W) hBe {Bl Bj Bc : Nat} {L : List Bool} hS g2 => passL (W := W) (Bg := Bg) (Bi := Bi) (Be := Be) (lb := lb) (Bl := Bl) (Bj := Bj) (Bc := Bc) (L := L) hG hV hbox his h0 hBe hS g1 g2)
  have hlb : lb < W.heap.size := (Array.getElem?_eq_some_iff.1 hl).1
  have hw0 := h0.size
  clear hbox his hV
  generalize hns : G.sorts.length = ns at *
  go_enter Try.func49, Try.ntmps49
  go_wp2
  obtain ⟨W2, hW2⟩ : ∃ W2, W2 = (W.alloc (.cells #[.slice (some ⟨lb, 0, none⟩) ns ns] 33)).alloc (.cells #[.func (.func 50) #[] #[]] 75) := ⟨_, rfl⟩
  have hB2 : Below W.heap.size W W2 := by rw [hW2]; exact ((Below.refl _ _).alloc (Nat.le_refl _) _).alloc (by simp) _
  have b1 : W2.heap[W.heap.size]? = some (.cells #[.slice (some ⟨lb, 0, none⟩) ns ns] 33) := by
    rw [hW2]; exact (Below.heap_alloc _ _ _ (by simp)).trans (new_block W _)
  have b2 : W2.heap[W.heap.size + 1]? = some (.cells #[.func (.func 50) #[] #[]] 75) := by
    rw [hW2]
    have := new_block (W.alloc (.cells #[.slice (some ⟨lb, 0, none⟩) ns ns] 33)) (.cells #[.func (.func 50) #[] #[]] 75)
    rwa [World.size_alloc] at this
  have b3 := (hB2.block lb hlb).trans hl
  have b4 := (hB2.block Be (Array.getElem?_eq_some_iff.1 hBe).1).trans hBe
  have s2 := hB2.size
  rw [← hW2]
  clear hW2
  have hbl : W.heap.size ≠ lb := by omega
  generalize hBl : W.heap.size = Bl at *
  refine wp_scope_label (fun a' w' => ∃ (u7 u8 u9 u10 u11 u12 : Value), a' = { tmps := #[.slice (some ⟨lb, 0, none⟩) ns ns, .func (.func 50) #[] #[], .func (.func 51) #[] #[.pointer (some ⟨Bg, 0, none⟩), .pointer (some ⟨Bi, 0, none⟩), .pointer (some ⟨Be, 0, none⟩)], .pointer (some ⟨Bl, 0, none⟩), .pointer (some ⟨Bl + 1, 0, none⟩), undef, .slice none 0 0, u7, u8, u9, u10, u11, u12], defers := [] } ∧
      ∃ L, w'.heap[lb]? = some (.cells (L.map Value.bool).toArray 4) ∧ L.length = ns ∧ w'.heap[Bl]? = some (.cells #[.slice (some ⟨lb, 0, none⟩) ns ns] 33) ∧ w'.heap[Bl + 1]? = some (.cells #[.func (.func 50) #[] #[]] 75) ∧
        w'.heap[Be]? = some (.cells #[.slice (some ⟨lb, 0, none⟩) ns ns] 33) ∧ Reach true G.prods (List.replicate ns false) L ∧ Far (fun k => k = lb) W w')
    (fun _ w' => falses w'.heap[lb]?) ?_ ?_
  · exact ⟨_, _, _, _, _, _, rfl, _, b3, by simp, b1, b2, b4, .refl, (Far.ofBelow (by rw [hBl]; exact hB2))⟩
  · clear b1 b2 b3 b4 s2 hB2 hl hBe
    rintro a' w' ⟨u7, u8, u9, u10, u11, u12, rfl, L, b3, hL, b1, b2, b4, hR, hF⟩
    have hwb := h0.trans (hF.toBelow (by omega) (by rintro k rfl; omega))
    have hw2 := hwb.size
    obtain ⟨w1, hw1⟩ : ∃ w1, w1 = w'.alloc (.cells #[.bool false] 4) := ⟨_, rfl⟩
    have hB1 : Below w'.heap.size w' w1 := by rw [hw1]; exact (Below.refl _ _).alloc (Nat.le_refl _) _
    have kp : ∀ {b : Nat} {o : Obj}, w'.heap[b]? = some o → w1.heap[b]? = some o := fun ho => (hB1.block _ (Array.getElem?_eq_some_iff.1 ho).1).trans ho
    have c4 : w1.heap[w'.heap.size]? = some (.cells #[.bool false] 4) := by rw [hw1]; exact new_block w' _
    have hlt := (Array.getElem?_eq_some_iff.1 b3).1
    have HP := hid (pass.out w1 (hwb.trans (hB1.mono hw2)) (kp b4) (Bl := Bl) (Bj := Bl + 1) (Bc := w'.heap.size) (L := L) ⟨kp b3, kp b1, kp b2, c4, hL, by omega⟩ (by omega))
    have fl := falses_list L 4 (0, 0)
    have HB := hid b3
    have HE := hid (kp b4)
    have HB1 := hid (kp b3)
    have HR := hid hR
    have hbl2 := (Array.getElem?_eq_some_iff.1 b1).1
    have hbl3 := (Array.getElem?_eq_some_iff.1 b2).1
    have hbl4 := (Array.getElem?_eq_some_iff.1 b4).1
    have hW1 : Far (fun k => k = lb) W w1 := hF.on (Far.ofBelow (S := fun _ => False) hB1) (fun i h => h.elim)
    clear hR b1 b2 b3 b4 c4 hB1 hL
    go_wp2_with fail
    rw [← hw1]
    clear hw1
    refine HP.out.mono ?_
    rintro e w2 ⟨⟨v, rfl⟩, L', c, hS, hFF, hPa⟩
    have d1 := cell_of_block hS.chg 0
    have d2 := cell_of_block hS.var 0
    simp only [List.getElem?_toArray, List.getElem?_cons_zero] at d1 d2
    have hF2 : Far (fun k => k = lb) W w2 := hW1.on hFF (by
      rintro i (rfl | rfl)
      · exact .inl rfl
      · right; have := hF.size; omega)
    have nB : ¬ (Be = lb ∨ Be = w'.heap.size) := by
      rintro (h | h)
      · have h1 := HE.out
        have h2 := HB1.out
        rw [h, h2] at h1
        simp at h1
      · omega
    have e4 := hFF.heap HE.out nB
    cases c
    · obtain ⟨rfl, hcl⟩ := passed_closed hPa
      go_wp2
      simp only [Exit.jump]
      go_ret
      exact ⟨rfl, _, ⟨HR.out, hcl⟩, hS.list, hF2⟩
    · go_wp2
      go_step3
      refine ⟨rfl, ⟨_, _, _, _, _, _, rfl, L', hS.list, hS.len, hS.var, hS.join, e4, reach_trans HR.out hPa.1, hF2⟩, ?_⟩
      rw [hS.list, HB.out, falses_list, falses_list]
      exact hPa.2.2.2.1 rfl

end Go.Proofs.Ytmfobiimihaiiaa
