/- The walk of the law SetsAlone. -/
import Derived.Test.YtmfobiimihaiiaaMl
import Derived.Test.YtmfobiimihaiiaaLw
import Derived.Test.YtmfobiimihaiiaaHp
namespace Go.Proofs.Ytmfobiimihaiiaa
open Go Go.RowKit Go.Lib Go.Joins

theorem of_one (t : Int) (w : World) (b : Nat) (h : w.cell? ⟨b, 0, none⟩ = some (.int .i64 t)) : Calls Try.prog 26 #[.slice (some ⟨b, 0, none⟩) 1 1] w fun e w' => e = .returned (u64 (bitN t)) ∧ w = w' := by
  have := Of_some b 0 1 [t] w (by simp) (fun i hi => by
    obtain rfl : i = 0 := by simpa using hi
    simpa using h)
  have e : ofN [t] = bitN t := by simp [ofN]
  rw [e] at this
  exact this

set_option maxRecDepth 100000 in
set_option maxHeartbeats 4000000 in
theorem alone_walk {G : GD} {gv tv ov sv pv : Value} {tf : Nat → Nat → Value} {rv : Nat → Value} {w : World} (h : GrAt w gv G tv ov sv pv tf rv) (t : Int) (A : Option Addr) (l : List Int) (c : Nat) (hl : IntsAt w (.slice A l.length c) l) (hA : A = none → c = 0)
    (b : Nat) (hb0 : b < top) (ht64 : -9223372036854775808 ≤ t ∧ t ≤ 9223372036854775807) :
    Calls Try.prog 9 #[gv, .int .i64 t, .slice A l.length c, u64 b] w fun e w' => e = .returned (.bool true) ∧ Below w.heap.size w w' := by
  obtain ⟨W1, B, hW1, hB, c0, c1, c2, c3, c4, hG, hb, hsz⟩ := gr_box h
  subst hB
  have kw := hid (works_any W1)
  have kf := hid fun (W' : World) (hb : Below W1.heap.size W1 W') => few_any (hG.mono hb)
  have kv := hid fun (W' : World) (hb : Below W1.heap.size W1 W') => Valid_any (hG.mono hb)
  have hgv := h.eq
  have hs := hG.sorts
  have ht := hG.terms
  have hp := hG.prods
  subst hgv
  obtain ⟨sa, sc, rfl, hsn, hs⟩ := hs
  obtain ⟨ta, tc, rfl, htn, ht⟩ := ht
  obtain ⟨pa, pc, rfl, hpn, hp⟩ := hp
  have HSC := hid hs
  have HTC := hid ht
  have HPC := hid hp
  clear hs ht hp
  have kO := hid fun hV (W' : World) (hb : Below W1.heap.size W1 W') (lv : Value) (l : List Int) (hl : IntsAt W' lv l) => Of_any (hG.mono hb) hV hl hb0
  clear h hG
  have HL := hid hl
  have HA := hid hA
  clear hl hA
  generalize hfb : decide (fewG G) = fb at *
  generalize hvb : validB G = vb at *
  generalize hns : G.sorts.length = ns at *
  generalize hnt : G.terms.length = nt at *
  generalize hm : l.length = m at *
  cases fb
  · go_enter Try.func9, Try.ntmps9
    go_wp2_with fail
    rw [← hW1]
    clear hW1
    refine kw.out.mono ?_
    rintro e w1 ⟨rfl, hBx⟩
    have d0 := cell_below hBx c0
    have d1 := cell_below hBx c1
    have d2 := cell_below hBx c2
    have d3 := cell_below hBx c3
    have d4 := cell_below hBx c4
    clear c0 c1 c2 c3 c4
    go_wp2_with fail
    refine (kf.out _ hBx).mono ?_
    rintro e w2 ⟨rfl, hBq⟩
    replace d0 := cell_below hBq d0
    replace d1 := cell_below hBq d1
    replace d2 := cell_below hBq d2
    replace d3 := cell_below hBq d3
    replace d4 := cell_below hBq d4
    replace hBx := hBx.trans (hBq.mono hBx.size)
    clear hBq
    go_wp2_with fail
    go_ret
    exact ⟨rfl, hb.trans (hBx.mono hsz)⟩
  by_cases hm1 : (30 : Int) < (m : Int)
  · go_enter Try.func9, Try.ntmps9
    go_wp2_with fail
    rw [← hW1]
    clear hW1
    refine kw.out.mono ?_
    rintro e w1 ⟨rfl, hBx⟩
    have d0 := cell_below hBx c0
    have d1 := cell_below hBx c1
    have d2 := cell_below hBx c2
    have d3 := cell_below hBx c3
    have d4 := cell_below hBx c4
    clear c0 c1 c2 c3 c4
    go_wp2_with fail
    refine (kf.out _ hBx).mono ?_
    rintro e w2 ⟨rfl, hBq⟩
    replace d0 := cell_below hBq d0
    replace d1 := cell_below hBq d1
    replace d2 := cell_below hBq d2
    replace d3 := cell_below hBq d3
    replace d4 := cell_below hBq d4
    replace hBx := hBx.trans (hBq.mono hBx.size)
    clear hBq
    go_wp2_with fail
    go_ret
    exact ⟨rfl, hb.trans (hBx.mono hsz)⟩
  have hm2 : (m : Int) ≤ 30 := by omega
  cases vb
  · go_enter Try.func9, Try.ntmps9
    go_wp2_with fail
    rw [← hW1]
    clear hW1
    refine kw.out.mono ?_
    rintro e w1 ⟨rfl, hBx⟩
    have d0 := cell_below hBx c0
    have d1 := cell_below hBx c1
    have d2 := cell_below hBx c2
    have d3 := cell_below hBx c3
    have d4 := cell_below hBx c4
    clear c0 c1 c2 c3 c4
    go_wp2_with fail
    refine (kf.out _ hBx).mono ?_
    rintro e w2 ⟨rfl, hBq⟩
    replace d0 := cell_below hBq d0
    replace d1 := cell_below hBq d1
    replace d2 := cell_below hBq d2
    replace d3 := cell_below hBq d3
    replace d4 := cell_below hBq d4
    replace hBx := hBx.trans (hBq.mono hBx.size)
    clear hBq
    go_wp2_with fail
    refine (kv.out _ hBx).mono ?_
    rintro e w2 ⟨rfl, hBq⟩
    replace d0 := cell_below hBq d0
    replace d1 := cell_below hBq d1
    replace d2 := cell_below hBq d2
    replace d3 := cell_below hBq d3
    replace d4 := cell_below hBq d4
    replace hBx := hBx.trans (hBq.mono hBx.size)
    clear hBq
    go_wp2_with fail
    go_ret
    exact ⟨rfl, hb.trans (hBx.mono hsz)⟩
  by_cases ht0 : t < 0
  · go_enter Try.func9, Try.ntmps9
    go_wp2_with fail
    rw [← hW1]
    clear hW1
    refine kw.out.mono ?_
    rintro e w1 ⟨rfl, hBx⟩
    have d0 := cell_below hBx c0
    have d1 := cell_below hBx c1
    have d2 := cell_below hBx c2
    have d3 := cell_below hBx c3
    have d4 := cell_below hBx c4
    clear c0 c1 c2 c3 c4
    go_wp2_with fail
    refine (kf.out _ hBx).mono ?_
    rintro e w2 ⟨rfl, hBq⟩
    replace d0 := cell_below hBq d0
    replace d1 := cell_below hBq d1
    replace d2 := cell_below hBq d2
    replace d3 := cell_below hBq d3
    replace d4 := cell_below hBq d4
    replace hBx := hBx.trans (hBq.mono hBx.size)
    clear hBq
    go_wp2_with fail
    refine (kv.out _ hBx).mono ?_
    rintro e w2 ⟨rfl, hBq⟩
    replace d0 := cell_below hBq d0
    replace d1 := cell_below hBq d1
    replace d2 := cell_below hBq d2
    replace d3 := cell_below hBq d3
    replace d4 := cell_below hBq d4
    replace hBx := hBx.trans (hBq.mono hBx.size)
    clear hBq
    go_wp2_with fail
    go_ret
    exact ⟨rfl, hb.trans (hBx.mono hsz)⟩
  have ht1 : 0 ≤ t := by omega
  by_cases ht2 : (nt : Int) ≤ t
  · go_enter Try.func9, Try.ntmps9
    go_wp2_with fail
    rw [← hW1]
    clear hW1
    refine kw.out.mono ?_
    rintro e w1 ⟨rfl, hBx⟩
    have d0 := cell_below hBx c0
    have d1 := cell_below hBx c1
    have d2 := cell_below hBx c2
    have d3 := cell_below hBx c3
    have d4 := cell_below hBx c4
    clear c0 c1 c2 c3 c4
    go_wp2_with fail
    refine (kf.out _ hBx).mono ?_
    rintro e w2 ⟨rfl, hBq⟩
    replace d0 := cell_below hBq d0
    replace d1 := cell_below hBq d1
    replace d2 := cell_below hBq d2
    replace d3 := cell_below hBq d3
    replace d4 := cell_below hBq d4
    replace hBx := hBx.trans (hBq.mono hBx.size)
    clear hBq
    go_wp2_with fail
    refine (kv.out _ hBx).mono ?_
    rintro e w2 ⟨rfl, hBq⟩
    replace d0 := cell_below hBq d0
    replace d1 := cell_below hBq d1
    replace d2 := cell_below hBq d2
    replace d3 := cell_below hBq d3
    replace d4 := cell_below hBq d4
    replace hBx := hBx.trans (hBq.mono hBx.size)
    clear hBq
    go_wp2_with fail
    go_ret
    exact ⟨rfl, hb.trans (hBx.mono hsz)⟩
  have ht3 : t < (nt : Int) := by omega
  have HM := hid hm
  clear hm
  go_enter Try.func9, Try.ntmps9
  go_wp2_with fail
  rw [← hW1]
  clear hW1
  refine kw.out.mono ?_
  rintro e w1 ⟨rfl, hBx⟩
  have d0 := cell_below hBx c0
  have d1 := cell_below hBx c1
  have d2 := cell_below hBx c2
  have d3 := cell_below hBx c3
  have d4 := cell_below hBx c4
  clear c0 c1 c2 c3 c4
  go_wp2_with fail
  refine (kf.out _ hBx).mono ?_
  rintro e w2 ⟨rfl, hBq⟩
  replace d0 := cell_below hBq d0
  replace d1 := cell_below hBq d1
  replace d2 := cell_below hBq d2
  replace d3 := cell_below hBq d3
  replace d4 := cell_below hBq d4
  replace hBx := hBx.trans (hBq.mono hBx.size)
  clear hBq
  go_wp2_with fail
  refine (kv.out _ hBx).mono ?_
  rintro e w2 ⟨rfl, hBq⟩
  replace d0 := cell_below hBq d0
  replace d1 := cell_below hBq d1
  replace d2 := cell_below hBq d2
  replace d3 := cell_below hBq d3
  replace d4 := cell_below hBq d4
  replace hBx := hBx.trans (hBq.mono hBx.size)
  clear hBq
  have HLw := hid (HL.out.mono (hb.trans (hBx.mono hsz)))
  have hx2 := hid (Below.refl w2.heap.size w2)
  go_wp2_with (first
    | (at_builtin
       refine app_syms rfl (.tmp 41) (.tmp 43) rfl w2.heap.size (.slice none 0 0) 0 [] rfl (World.ownsRow_nil _ _ _ _) (some ⟨w2.heap.size, 0, none⟩) 1 1 [t] rfl rfl (fun i hi => ⟨w2.heap.size, 0, rfl, by
         obtain rfl : i = 0 := by omega
         simp⟩) (fun h => (by cases h)) (by decide) (by simp) ?_
       intro v5 w5 own5 hb5
       have HB5 := hid ((below_al (Below.refl _ w2) (.cells #[.int .i64 t] 42)).trans hb5)
       clear hb5)
    | (at_builtin
       refine app_syms rfl (.tmp 45) (.tmp 46) rfl w2.heap.size v5 (0 + 1) ([] ++ [t].map (.int .i64)) rfl own5 A m c l rfl HM.out (ints_cells (HLw.out.mono HB5.out)) HA.out (by omega) HB5.out.size ?_
       intro v6 w6 own6 hb6
       have HB6 := hid (HB5.out.trans hb6)
       replace d0 := cell_below HB6.out d0
       replace d1 := cell_below HB6.out d1
       replace d2 := cell_below HB6.out d2
       replace d3 := cell_below HB6.out d3
       replace d4 := cell_below HB6.out d4
       have HI := hid (ints_of_own (l := t :: l) own6 (by omega) (fun x hx => by
         rcases List.mem_cons.1 hx with rfl | hx
         · exact ht64
         · exact HLw.out.2 x hx))
       clear own6 own5 hb6))
  have hB6 := hBx.trans (HB6.out.mono hBx.size)
  refine (kO.out (by simp) _ hB6 _ _ HI.out).mono ?_
  rintro e w7 ⟨E, F, rfl, _, _, hB7⟩
  have hof : ofRow nt E F (t :: l) b = bitN t := by
    unfold ofRow
    rw [if_pos ht1, if_pos ht3]
  rw [hof]
  replace hB6 := hB6.trans (hB7.mono hB6.size)
  clear hB7 hof
  go_wp2_with fail
  refine (of_one t _ _ (by simp)).mono ?_
  rintro e w' ⟨rfl, rfl⟩
  go_wp2_with fail
  go_ret
  exact ⟨rfl, (hb.trans (hB6.mono hsz)).trans (below_al (Below.refl _ _) _ |>.mono (by have := hB6.size; omega))⟩

end Go.Proofs.Ytmfobiimihaiiaa
