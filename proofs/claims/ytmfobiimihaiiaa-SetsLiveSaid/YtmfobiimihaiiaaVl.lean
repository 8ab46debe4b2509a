/- The walk of the law SetsLive. -/
import Derived.Test.YtmfobiimihaiiaaMl
import Derived.Test.YtmfobiimihaiiaaLw
namespace Go.Proofs.Ytmfobiimihaiiaa
open Go Go.RowKit Go.Lib Go.Joins

set_option maxRecDepth 100000 in
set_option maxHeartbeats 4000000 in
theorem live_walk {G : GD} {gv tv ov sv pv : Value} {tf : Nat → Nat → Value} {rv : Nat → Value} {w : World} (h : GrAt w gv G tv ov sv pv tf rv) :
    Calls Try.prog 7 #[gv] w fun e w' => e = .returned (.bool true) ∧ Below w.heap.size w w' := by
  obtain ⟨W1, B, hW1, hB, c0, c1, c2, c3, c4, hG, hb, hsz⟩ := gr_box h
  subst hB
  have kw := hid (works_any W1)
  have kf := hid fun (W' : World) (hb : Below W1.heap.size W1 W') => few_any (hG.mono hb)
  have kv := hid fun (W' : World) (hb : Below W1.heap.size W1 W') => Valid_any (hG.mono hb)
  have hgv := h.eq
  have hs := h.sorts
  have ht := h.terms
  have hp := h.prods
  subst hgv
  obtain ⟨sa, sc, rfl, hsn, hs⟩ := hs
  obtain ⟨ta, tc, rfl, htn, ht⟩ := ht
  obtain ⟨pa, pc, rfl, hpn, hp⟩ := hp
  have HSC := hid hs
  have HTC := hid ht
  have HPC := hid hp
  clear hs ht hp
  have kE := hid fun hV (W' : World) (hb : Below W1.heap.size W1 W') => Empty_any (hG.mono hb) hV
  have kL := hid fun hV (W' : World) (hb : Below W1.heap.size W1 W') => Lives_any (hG.mono hb) hV
  have kF := hid fun hV (W' : World) (hb : Below W1.heap.size W1 W') => First_any (hG.mono hb) hV
  have HLB := hid fun hV E L F => @lives_begins G hV E L F
  have HEL := hid fun E L => @empty_lives G.prods G.sorts.length E L
  clear h hG
  generalize hfb : decide (fewG G) = fb at *
  generalize hvb : validB G = vb at *
  generalize G.sorts.length = ns at *
  generalize G.terms.length = nt at *
  cases fb
  · go_enter Try.func7, Try.ntmps7
    go_wp2_with fail
    rw [← hW1]
    clear hW1
    refine kw.out.mono ?_
    rintro e w1 ⟨rfl, hBx⟩
    have d0 := cell_below hBx c0
    have d1 := cell_below hBx c1
    have d2 := cell_below hBx c2
    have d3 := cell_below hBx c3
    have d4 := cell_below hBx c4
    clear c0 c1 c2 c3 c4
    go_wp2_with fail
    refine (kf.out _ hBx).mono ?_
    rintro e w2 ⟨rfl, hBq⟩
    replace d0 := cell_below hBq d0
    replace d1 := cell_below hBq d1
    replace d2 := cell_below hBq d2
    replace d3 := cell_below hBq d3
    replace d4 := cell_below hBq d4
    replace hBx := hBx.trans (hBq.mono hBx.size)
    clear hBq
    go_wp2_with fail
    go_ret
    exact ⟨rfl, hb.trans (hBx.mono hsz)⟩
  cases vb
  · go_enter Try.func7, Try.ntmps7
    go_wp2_with fail
    rw [← hW1]
    clear hW1
    refine kw.out.mono ?_
    rintro e w1 ⟨rfl, hBx⟩
    have d0 := cell_below hBx c0
    have d1 := cell_below hBx c1
    have d2 := cell_below hBx c2
    have d3 := cell_below hBx c3
    have d4 := cell_below hBx c4
    clear c0 c1 c2 c3 c4
    go_wp2_with fail
    refine (kf.out _ hBx).mono ?_
    rintro e w2 ⟨rfl, hBq⟩
    replace d0 := cell_below hBq d0
    replace d1 := cell_below hBq d1
    replace d2 := cell_below hBq d2
    replace d3 := cell_below hBq d3
    replace d4 := cell_below hBq d4
    replace hBx := hBx.trans (hBq.mono hBx.size)
    clear hBq
    go_wp2_with fail
    refine (kv.out _ hBx).mono ?_
    rintro e w2 ⟨rfl, hBq⟩
    replace d0 := cell_below hBq d0
    replace d1 := cell_below hBq d1
    replace d2 := cell_below hBq d2
    replace d3 := cell_below hBq d3
    replace d4 := cell_below hBq d4
    replace hBx := hBx.trans (hBq.mono hBx.size)
    clear hBq
    go_wp2_with fail
    go_ret
    exact ⟨rfl, hb.trans (hBx.mono hsz)⟩
  · go_enter Try.func7, Try.ntmps7
    go_wp2_with fail
    rw [← hW1]
    clear hW1
    refine kw.out.mono ?_
    rintro e w1 ⟨rfl, hBx⟩
    have d0 := cell_below hBx c0
    have d1 := cell_below hBx c1
    have d2 := cell_below hBx c2
    have d3 := cell_below hBx c3
    have d4 := cell_below hBx c4
    clear c0 c1 c2 c3 c4
    go_wp2_with fail
    refine (kf.out _ hBx).mono ?_
    rintro e w2 ⟨rfl, hBq⟩
    replace d0 := cell_below hBq d0
    replace d1 := cell_below hBq d1
    replace d2 := cell_below hBq d2
    replace d3 := cell_below hBq d3
    replace d4 := cell_below hBq d4
    replace hBx := hBx.trans (hBq.mono hBx.size)
    clear hBq
    go_wp2_with fail
    refine (kv.out _ hBx).mono ?_
    rintro e w2 ⟨rfl, hBq⟩
    replace d0 := cell_below hBq d0
    replace d1 := cell_below hBq d1
    replace d2 := cell_below hBq d2
    replace d3 := cell_below hBq d3
    replace d4 := cell_below hBq d4
    replace hBx := hBx.trans (hBq.mono hBx.size)
    clear hBq
    go_wp2_with fail
    refine (kE.out (by simp) _ hBx).mono ?_
    rintro e w2 ⟨b1, E, rfl, hE, e1, _, hBq⟩
    replace d0 := cell_below hBq d0
    replace d1 := cell_below hBq d1
    replace d2 := cell_below hBq d2
    replace d3 := cell_below hBq d3
    replace d4 := cell_below hBq d4
    have HB1 := hBq
    replace hBx := hBx.trans (hBq.mono hBx.size)
    clear hBq
    have e1 := hid e1
    go_wp2_with fail
    refine (kL.out (by simp) _ hBx).mono ?_
    rintro e w2 ⟨b2, L, rfl, hL, e2, _, hBq⟩
    replace d0 := cell_below hBq d0
    replace d1 := cell_below hBq d1
    replace d2 := cell_below hBq d2
    replace d3 := cell_below hBq d3
    replace d4 := cell_below hBq d4
    replace hBx := hBx.trans (hBq.mono hBx.size)
    have e1 := hid (heap_keep hBq e1.out)
    have e2 := hid e2
    clear hBq
    go_wp2_with fail
    refine (kF.out (by simp) _ hBx).mono ?_
    rintro e w2 ⟨b3, E', F, rfl, hE', hF, e3, _, hBq⟩
    replace d0 := cell_below hBq d0
    replace d1 := cell_below hBq d1
    replace d2 := cell_below hBq d2
    replace d3 := cell_below hBq d3
    replace d4 := cell_below hBq d4
    replace hBx := hBx.trans (hBq.mono hBx.size)
    have e1 := hid (heap_keep hBq e1.out)
    have e2 := hid (heap_keep hBq e2.out)
    have e3 := hid e3
    clear hBq
    obtain rfl := hE.same hE'
    have HE := hid hE
    have HL := hid hL
    have HF := hid hF
    have hEl := hE.length
    have hLl := hL.length
    have hFl := hF.length
    have HI := hid (HLB.out (by simp) E L F hE hL hF)
    have HI2 := hid (HEL.out E L hE hL)
    clear hE hE' hL hF
    have L1 := hid hEl
    have L2 := hid hLl
    have L3 := hid hFl
    clear hEl hLl hFl
    go_wp2_with fail
    go_loop [8] (fun i => ∃ k : Nat, k ≤ ns ∧ i = .int .i64 (k : Int)) (fun i => ns - (RowKit.intOf i).toNat)
    case atStart => exact ⟨0, by omega, rfl⟩
    case round =>
      obtain ⟨k, hk, rfl⟩ := hrel
      by_cases hlt : k < ns
      · have g1 := cell_bools e1.out (i := k) (by have := L1.out; omega)
        have g2 := cell_bools e2.out (i := k) (by have := L2.out; omega)
        have g3 := cell_sets e3.out (i := k) (by have := L3.out; omega)
        have i0 : (0 : Int) ≤ (k : Int) := by omega
        have i1 : (k : Int) < (ns : Int) := by omega
        have h1 := HI2.out k
        have h2 := HI.out k
        generalize E.getD k false = x at *
        generalize L.getD k false = y at *
        generalize F.getD k 0 = z at *
        cases x
        · cases y
          · clear h1 h2
            go_wp2
            exact ⟨⟨k + 1, by omega, by go_num⟩, by simp [RowKit.intOf]; omega⟩
          · have hz : ((z : Int) == 0) = false := by
              rcases h2 rfl with h3 | h3
              · cases h3
              · rw [beq_eq_false_iff_ne]; omega
            clear h1 h2
            go_wp2
            exact ⟨⟨k + 1, by omega, by go_num⟩, by simp [RowKit.intOf]; omega⟩
        · cases y
          · exact absurd (h1 rfl) (by simp)
          · clear h1 h2
            go_wp2
            exact ⟨⟨k + 1, by omega, by go_num⟩, by simp [RowKit.intOf]; omega⟩
      · have i1 : ¬ ((k : Int) < (ns : Int)) := by omega
        go_wp2
        go_ret
        exact ⟨rfl, hb.trans (hBx.mono hsz)⟩

end Go.Proofs.Ytmfobiimihaiiaa
