/- The walk of the law SetsFollow. -/
import Derived.Deep.QuietTactic
import Derived.BigQuiet
import Derived.Test.YtmfobiimihaiiaaMf
import Derived.Test.YtmfobiimihaiiaaLw
import Derived.Test.YtmfobiimihaiiaaHt3
namespace Go.Proofs.Ytmfobiimihaiiaa
open Go Go.RowKit Go.Lib Go.Joins

set_option maxRecDepth 100000 in
set_option maxHeartbeats 4000000 in
theorem follow_walk {G : GD} {gv tv ov sv pv : Value} {tf : Nat → Nat → Value} {rv : Nat → Value} {w : World} (h : GrAt w gv G tv ov sv pv tf rv) (p k : Int) :
    Calls Try.prog 8 #[gv, .int .i64 p, .int .i64 k] w fun e w' => e = .returned (.bool true) ∧ Below w.heap.size w w' := by
  obtain ⟨W1, B, hW1, hB, c0, c1, c2, c3, c4, hG, hb, hsz⟩ := gr_box h
  subst hB
  have kw := hid (works_any W1)
  have kf := hid fun (W' : World) (hb : Below W1.heap.size W1 W') => few_any (hG.mono hb)
  have kv := hid fun (W' : World) (hb : Below W1.heap.size W1 W') => Valid_any (hG.mono hb)
  have hgv := h.eq
  have hs := hG.sorts
  have ht := hG.terms
  have hp := hG.prods
  subst hgv
  obtain ⟨sa, sc, rfl, hsn, hs⟩ := hs
  obtain ⟨ta, tc, rfl, htn, ht⟩ := ht
  obtain ⟨pa, pc, rfl, hpn, hp⟩ := hp
  have HSC := hid hs
  have HTC := hid ht
  have HPC := hid hp
  clear hs ht hp
  have kL := hid fun hV (W' : World) (hb : Below W1.heap.size W1 W') => Follow_any (hG.mono hb) hV
  have kF := hid fun hV (W' : World) (hb : Below W1.heap.size W1 W') => First_any (hG.mono hb) hV
  have HR := hid hG.rights
  have HVP := hid fun hV k => @valid_prod G hV k
  have H1 := hid fun E F L hL j k => @follow_end G E F L hL j k
  have H2 := hid fun hV E F L hL j k => @follow_term G hV E F L hL j k
  have H3 := hid fun hV E F L hF hL j k => @follow_sort G hV E F L hF hL j k
  clear h hG
  generalize hfb : decide (fewG G) = fb at *
  generalize hvb : validB G = vb at *
  generalize hns : G.sorts.length = ns at *
  generalize hnt : G.terms.length = nt at *
  generalize hnp : G.prods.length = np at *
  cases fb
  · go_enter Try.func8, Try.ntmps8
    go_wp2_with fail
    rw [← hW1]
    clear hW1
    refine kw.out.mono ?_
    rintro e w1 ⟨rfl, hBx⟩
    have d0 := cell_below hBx c0
    have d1 := cell_below hBx c1
    have d2 := cell_below hBx c2
    have d3 := cell_below hBx c3
    have d4 := cell_below hBx c4
    clear c0 c1 c2 c3 c4
    go_wp2_with fail
    refine (kf.out _ hBx).mono ?_
    rintro e w2 ⟨rfl, hBq⟩
    replace d0 := cell_below hBq d0
    replace d1 := cell_below hBq d1
    replace d2 := cell_below hBq d2
    replace d3 := cell_below hBq d3
    replace d4 := cell_below hBq d4
    replace hBx := hBx.trans (hBq.mono hBx.size)
    clear hBq
    go_wp2_with fail
    go_ret
    exact ⟨rfl, hb.trans (hBx.mono hsz)⟩
  cases vb
  · go_enter Try.func8, Try.ntmps8
    go_wp2_with fail
    rw [← hW1]
    clear hW1
    refine kw.out.mono ?_
    rintro e w1 ⟨rfl, hBx⟩
    have d0 := cell_below hBx c0
    have d1 := cell_below hBx c1
    have d2 := cell_below hBx c2
    have d3 := cell_below hBx c3
    have d4 := cell_below hBx c4
    clear c0 c1 c2 c3 c4
    go_wp2_with fail
    refine (kf.out _ hBx).mono ?_
    rintro e w2 ⟨rfl, hBq⟩
    replace d0 := cell_below hBq d0
    replace d1 := cell_below hBq d1
    replace d2 := cell_below hBq d2
    replace d3 := cell_below hBq d3
    replace d4 := cell_below hBq d4
    replace hBx := hBx.trans (hBq.mono hBx.size)
    clear hBq
    go_wp2_with fail
    refine (kv.out _ hBx).mono ?_
    rintro e w2 ⟨rfl, hBq⟩
    replace d0 := cell_below hBq d0
    replace d1 := cell_below hBq d1
    replace d2 := cell_below hBq d2
    replace d3 := cell_below hBq d3
    replace d4 := cell_below hBq d4
    replace hBx := hBx.trans (hBq.mono hBx.size)
    clear hBq
    go_wp2_with fail
    go_ret
    exact ⟨rfl, hb.trans (hBx.mono hsz)⟩
  by_cases hp0 : p < 0
  · go_enter Try.func8, Try.ntmps8
    go_wp2_with fail
    rw [← hW1]
    clear hW1
    refine kw.out.mono ?_
    rintro e w1 ⟨rfl, hBx⟩
    have d0 := cell_below hBx c0
    have d1 := cell_below hBx c1
    have d2 := cell_below hBx c2
    have d3 := cell_below hBx c3
    have d4 := cell_below hBx c4
    clear c0 c1 c2 c3 c4
    go_wp2_with fail
    refine (kf.out _ hBx).mono ?_
    rintro e w2 ⟨rfl, hBq⟩
    replace d0 := cell_below hBq d0
    replace d1 := cell_below hBq d1
    replace d2 := cell_below hBq d2
    replace d3 := cell_below hBq d3
    replace d4 := cell_below hBq d4
    replace hBx := hBx.trans (hBq.mono hBx.size)
    clear hBq
    go_wp2_with fail
    refine (kv.out _ hBx).mono ?_
    rintro e w2 ⟨rfl, hBq⟩
    replace d0 := cell_below hBq d0
    replace d1 := cell_below hBq d1
    replace d2 := cell_below hBq d2
    replace d3 := cell_below hBq d3
    replace d4 := cell_below hBq d4
    replace hBx := hBx.trans (hBq.mono hBx.size)
    clear hBq
    go_wp2_with fail
    go_ret
    exact ⟨rfl, hb.trans (hBx.mono hsz)⟩
  obtain ⟨pn, rfl⟩ : ∃ n : Nat, p = n := ⟨p.toNat, by omega⟩
  by_cases hp1 : (np : Int) ≤ (pn : Int)
  · go_enter Try.func8, Try.ntmps8
    go_wp2_with fail
    rw [← hW1]
    clear hW1
    refine kw.out.mono ?_
    rintro e w1 ⟨rfl, hBx⟩
    have d0 := cell_below hBx c0
    have d1 := cell_below hBx c1
    have d2 := cell_below hBx c2
    have d3 := cell_below hBx c3
    have d4 := cell_below hBx c4
    clear c0 c1 c2 c3 c4
    go_wp2_with fail
    refine (kf.out _ hBx).mono ?_
    rintro e w2 ⟨rfl, hBq⟩
    replace d0 := cell_below hBq d0
    replace d1 := cell_below hBq d1
    replace d2 := cell_below hBq d2
    replace d3 := cell_below hBq d3
    replace d4 := cell_below hBq d4
    replace hBx := hBx.trans (hBq.mono hBx.size)
    clear hBq
    go_wp2_with fail
    refine (kv.out _ hBx).mono ?_
    rintro e w2 ⟨rfl, hBq⟩
    replace d0 := cell_below hBq d0
    replace d1 := cell_below hBq d1
    replace d2 := cell_below hBq d2
    replace d3 := cell_below hBq d3
    replace d4 := cell_below hBq d4
    replace hBx := hBx.trans (hBq.mono hBx.size)
    clear hBq
    go_wp2_with fail
    go_ret
    exact ⟨rfl, hb.trans (hBx.mono hsz)⟩
  have hp2 : (pn : Int) < (np : Int) := by omega
  have hp3 : (0 : Int) ≤ (pn : Int) := by omega
  have b1 : decide ((pn : Int) < 0) = false := decide_eq_false (by omega)
  have b2 : decide (np ≤ pn) = false := decide_eq_false (by omega)
  by_cases hk0 : k < 0
  · go_enter Try.func8, Try.ntmps8
    go_wp2_with fail
    rw [← hW1]
    clear hW1
    refine kw.out.mono ?_
    rintro e w1 ⟨rfl, hBx⟩
    have d0 := cell_below hBx c0
    have d1 := cell_below hBx c1
    have d2 := cell_below hBx c2
    have d3 := cell_below hBx c3
    have d4 := cell_below hBx c4
    clear c0 c1 c2 c3 c4
    go_wp2_with fail
    refine (kf.out _ hBx).mono ?_
    rintro e w2 ⟨rfl, hBq⟩
    replace d0 := cell_below hBq d0
    replace d1 := cell_below hBq d1
    replace d2 := cell_below hBq d2
    replace d3 := cell_below hBq d3
    replace d4 := cell_below hBq d4
    replace hBx := hBx.trans (hBq.mono hBx.size)
    clear hBq
    go_wp2_with fail
    refine (kv.out _ hBx).mono ?_
    rintro e w2 ⟨rfl, hBq⟩
    replace d0 := cell_below hBq d0
    replace d1 := cell_below hBq d1
    replace d2 := cell_below hBq d2
    replace d3 := cell_below hBq d3
    replace d4 := cell_below hBq d4
    replace hBx := hBx.trans (hBq.mono hBx.size)
    clear hBq
    go_wp2_with fail
    go_ret
    exact ⟨rfl, hb.trans (hBx.mono hsz)⟩
  obtain ⟨kn, rfl⟩ : ∃ n : Nat, k = n := ⟨k.toNat, by omega⟩
  have b3 : decide ((kn : Int) < 0) = false := decide_eq_false (by omega)
  obtain ⟨b, off, rfl, hc⟩ := HPC.out (by omega)
  obtain ⟨z0, z1, z2, z3⟩ := hc pn (by omega)
  obtain ⟨v1, v2, v3, v4⟩ := prodB_sortNat (HVP.out (by simp) pn (by omega))
  have hR := HR.out pn (by omega)
  clear hc
  have H1 := hid fun E F L hL => H1.out E F L hL pn kn
  have H2 := hid fun hV E F L hL => H2.out hV E F L hL pn kn
  have H3 := hid fun hV E F L hF hL => H3.out hV E F L hF hL pn kn
  clear HPC HVP HR
  generalize G.prods.getD pn default = P at *
  obtain ⟨⟨ra, rc, hrv, hrn, hrc⟩, hri⟩ := hR
  rw [hrv] at z2
  obtain ⟨so, hso⟩ : ∃ so : Nat, P.sort = so := ⟨P.sort.toNat, by omega⟩
  rw [hso] at z1
  have hto : P.sort.toNat = so := by omega
  have hsn' : so < ns := by omega
  have HRC := hid hrc
  have HRI := hid hri
  have HV4 := hid v4
  have HTO := hid hto
  clear hrc hri v4 hrv hso v1 v2 v3 hto
  generalize hrl : P.rs.length = rl at *
  have HRL := hid hrl
  clear hrl
  by_cases hk1 : (rl : Int) ≤ (kn : Int)
  · go_enter Try.func8, Try.ntmps8
    go_wp2_with fail
    rw [← hW1]
    clear hW1
    refine kw.out.mono ?_
    rintro e w1 ⟨rfl, hBx⟩
    have d0 := cell_below hBx c0
    have d1 := cell_below hBx c1
    have d2 := cell_below hBx c2
    have d3 := cell_below hBx c3
    have d4 := cell_below hBx c4
    clear c0 c1 c2 c3 c4
    go_wp2_with fail
    refine (kf.out _ hBx).mono ?_
    rintro e w2 ⟨rfl, hBq⟩
    replace d0 := cell_below hBq d0
    replace d1 := cell_below hBq d1
    replace d2 := cell_below hBq d2
    replace d3 := cell_below hBq d3
    replace d4 := cell_below hBq d4
    replace hBx := hBx.trans (hBq.mono hBx.size)
    clear hBq
    go_wp2_with fail
    refine (kv.out _ hBx).mono ?_
    rintro e w2 ⟨rfl, hBq⟩
    replace d0 := cell_below hBq d0
    replace d1 := cell_below hBq d1
    replace d2 := cell_below hBq d2
    replace d3 := cell_below hBq d3
    replace d4 := cell_below hBq d4
    replace hBx := hBx.trans (hBq.mono hBx.size)
    clear hBq
    have y0 := cell_below hBx z0
    have y1 := cell_below hBx z1
    have y2 := cell_below hBx z2
    have y3 := cell_below hBx z3
    go_wp2_with fail
    go_ret
    exact ⟨rfl, hb.trans (hBx.mono hsz)⟩
  have hk2 : (kn : Int) < (rl : Int) := by omega
  have hk3 : (0 : Int) ≤ (kn : Int) := by omega
  have b4 : decide (rl ≤ kn) = false := decide_eq_false (by omega)
  obtain ⟨rb, ro, rfl, hcc⟩ := HRC.out (by have := HRL.out; omega)
  have g : W1.cell? ⟨rb, ro + kn, none⟩ = some (.int .i64 (P.rs.getD kn 0)) := hcc kn (by have := HRL.out; omega)
  have hsv := hid (HV4.out (P.rs.getD kn 0) (mem_getD (by have := HRL.out; omega)))
  obtain ⟨s, hsk⟩ : ∃ s, P.rs.getD kn 0 = s := ⟨_, rfl⟩
  rw [hsk] at g hsv H1 H2 H3
  have HSK := hid hsk
  clear hsk
  by_cases hs0 : 0 ≤ s
  · go_enter Try.func8, Try.ntmps8
    go_wp2_with fail
    rw [← hW1]
    clear hW1
    refine kw.out.mono ?_
    rintro e w1 ⟨rfl, hBx⟩
    have d0 := cell_below hBx c0
    have d1 := cell_below hBx c1
    have d2 := cell_below hBx c2
    have d3 := cell_below hBx c3
    have d4 := cell_below hBx c4
    clear c0 c1 c2 c3 c4
    go_wp2_with fail
    refine (kf.out _ hBx).mono ?_
    rintro e w2 ⟨rfl, hBq⟩
    replace d0 := cell_below hBq d0
    replace d1 := cell_below hBq d1
    replace d2 := cell_below hBq d2
    replace d3 := cell_below hBq d3
    replace d4 := cell_below hBq d4
    replace hBx := hBx.trans (hBq.mono hBx.size)
    clear hBq
    go_wp2_with fail
    refine (kv.out _ hBx).mono ?_
    rintro e w2 ⟨rfl, hBq⟩
    replace d0 := cell_below hBq d0
    replace d1 := cell_below hBq d1
    replace d2 := cell_below hBq d2
    replace d3 := cell_below hBq d3
    replace d4 := cell_below hBq d4
    replace hBx := hBx.trans (hBq.mono hBx.size)
    clear hBq
    have y0 := cell_below hBx z0
    have y1 := cell_below hBx z1
    have y2 := cell_below hBx z2
    have y3 := cell_below hBx z3
    have yg := cell_below hBx g
    go_wp2_with fail
    go_ret
    exact ⟨rfl, hb.trans (hBx.mono hsz)⟩
  have hs1 : s < 0 := by omega
  have b5 : decide (0 ≤ s) = false := decide_eq_false (by omega)
  obtain ⟨t, ht⟩ : ∃ t : Nat, -1 - s = (t : Int) := ⟨(-1 - s).toNat, by omega⟩
  have htn' : t < ns := by have := hsv.out; omega
  have hsr := (HRI.out s (by rw [← HSK.out]; exact mem_getD (by have := HRL.out; omega)))
  have htt : (-1 - s).toNat = t := by omega
  rw [HTO.out, htt] at H1
  rw [htt] at H2 H3
  have i5 : IntKind.i64.wrap (-1 - s) = (t : Int) := by rw [IntKind.wrap_i64]; omega
  have i7 : (0 : Int) ≤ (so : Int) := by omega
  have i8 : (so : Int) < (ns : Int) := by omega
  have i9 : (0 : Int) ≤ (t : Int) := by omega
  have i10 : (t : Int) < (ns : Int) := by omega
  have hd1 : IntKind.i64.wrap ((rl : Int) - 1) = (rl : Int) - 1 := by rw [IntKind.wrap_i64]; omega
  clear hsr
  have HT := hid ht
  have HTT := hid htt
  clear ht htt
  by_cases hk4 : kn + 1 = rl
  · go_enter Try.func8, Try.ntmps8
    go_wp2_with fail
    rw [← hW1]
    clear hW1
    refine kw.out.mono ?_
    rintro e w1 ⟨rfl, hBx⟩
    have d0 := cell_below hBx c0
    have d1 := cell_below hBx c1
    have d2 := cell_below hBx c2
    have d3 := cell_below hBx c3
    have d4 := cell_below hBx c4
    clear c0 c1 c2 c3 c4
    go_wp2_with fail
    refine (kf.out _ hBx).mono ?_
    rintro e w2 ⟨rfl, hBq⟩
    replace d0 := cell_below hBq d0
    replace d1 := cell_below hBq d1
    replace d2 := cell_below hBq d2
    replace d3 := cell_below hBq d3
    replace d4 := cell_below hBq d4
    replace hBx := hBx.trans (hBq.mono hBx.size)
    clear hBq
    go_wp2_with fail
    refine (kv.out _ hBx).mono ?_
    rintro e w2 ⟨rfl, hBq⟩
    replace d0 := cell_below hBq d0
    replace d1 := cell_below hBq d1
    replace d2 := cell_below hBq d2
    replace d3 := cell_below hBq d3
    replace d4 := cell_below hBq d4
    replace hBx := hBx.trans (hBq.mono hBx.size)
    clear hBq
    have y0 := cell_below hBx z0
    have y1 := cell_below hBx z1
    have y2 := cell_below hBx z2
    have y3 := cell_below hBx z3
    have yg := cell_below hBx g
    go_wp2_with fail
    refine (kL.out (by simp) _ hBx).mono ?_
    rintro e w2 ⟨lb, E, F, L, rfl, hE, hF, hL, e1, _, hBq⟩
    replace d0 := cell_below hBq d0
    replace d1 := cell_below hBq d1
    replace d2 := cell_below hBq d2
    replace d3 := cell_below hBq d3
    replace d4 := cell_below hBq d4
    replace hBx := hBx.trans (hBq.mono hBx.size)
    clear hBq
    have e1 := hid e1
    have y0 := cell_below hBx z0
    have y1 := cell_below hBx z1
    have y2 := cell_below hBx z2
    have y3 := cell_below hBx z3
    have yg := cell_below hBx g
    have hLl := hL.length
    have x1 := cell_sets e1.out (i := so) (by omega)
    have x2 := cell_sets e1.out (i := t) (by omega)
    have hLt := hL.2.2
    have hin := H1.out E F L hL (by omega) (by have := HRL.out; omega) hs1
    have ha := getD_lt hLt so
    have hb2 := getD_lt hLt t
    clear hLl hL hF hE hLt
    generalize L.getD so 0 = y at *
    generalize L.getD t 0 = z at *
    have kin : Hid (∀ w, Calls Try.prog 24 #[u64 y, u64 z] w fun e w' => e = .returned (.bool true) ∧ w' = w) := fun w => (In_any y z ha hb2 w).mono fun e w' ⟨h1, h2⟩ => ⟨by rw [h1, hin], h2.symm⟩
    clear hin ha hb2
    have hq : ((kn : Int) == (rl : Int) - 1) = true := by rw [beq_iff_eq]; omega
    have HK := hid hk4
    clear hk4
    go_wp2_with fail
    go_quiet ((go_at_call 24; exact Calls.quiet_of_same (kin.out _)))
    go_wp2
    go_ret
    exact ⟨rfl, below_drewN (hb.trans (hBx.mono hsz)) _⟩
  have hk5 : kn + 1 < rl := by omega
  have hq : ((kn : Int) == (rl : Int) - 1) = false := by rw [beq_eq_false_iff_ne]; omega
  have j1 : (kn : Int) + 1 < (rl : Int) := by omega
  have j0 : (0 : Int) ≤ (kn : Int) + 1 := by omega
  have j3 : IntKind.i64.wrap ((kn : Int) + 1) = (kn : Int) + 1 := by rw [IntKind.wrap_i64]; omega
  have j2 : ((kn : Int) + 1).toNat = kn + 1 := by omega
  have g' : W1.cell? ⟨rb, ro + (kn + 1), none⟩ = some (.int .i64 (P.rs.getD (kn + 1) 0)) := hcc (kn + 1) (by have := HRL.out; omega)
  have hsv' := hid (HV4.out (P.rs.getD (kn + 1) 0) (mem_getD (by have := HRL.out; omega)))
  have hsr' := (HRI.out (P.rs.getD (kn + 1) 0) (mem_getD (by have := HRL.out; omega)))
  clear hcc
  obtain ⟨s', hsk'⟩ : ∃ s', P.rs.getD (kn + 1) 0 = s' := ⟨_, rfl⟩
  rw [hsk'] at g' hsv' hsr' H2 H3
  have HSK' := hid hsk'
  clear hsk'
  by_cases hs0' : 0 ≤ s'
  · go_enter Try.func8, Try.ntmps8
    go_wp2_with fail
    rw [← hW1]
    clear hW1
    refine kw.out.mono ?_
    rintro e w1 ⟨rfl, hBx⟩
    have d0 := cell_below hBx c0
    have d1 := cell_below hBx c1
    have d2 := cell_below hBx c2
    have d3 := cell_below hBx c3
    have d4 := cell_below hBx c4
    clear c0 c1 c2 c3 c4
    go_wp2_with fail
    refine (kf.out _ hBx).mono ?_
    rintro e w2 ⟨rfl, hBq⟩
    replace d0 := cell_below hBq d0
    replace d1 := cell_below hBq d1
    replace d2 := cell_below hBq d2
    replace d3 := cell_below hBq d3
    replace d4 := cell_below hBq d4
    replace hBx := hBx.trans (hBq.mono hBx.size)
    clear hBq
    go_wp2_with fail
    refine (kv.out _ hBx).mono ?_
    rintro e w2 ⟨rfl, hBq⟩
    replace d0 := cell_below hBq d0
    replace d1 := cell_below hBq d1
    replace d2 := cell_below hBq d2
    replace d3 := cell_below hBq d3
    replace d4 := cell_below hBq d4
    replace hBx := hBx.trans (hBq.mono hBx.size)
    clear hBq
    have y0 := cell_below hBx z0
    have y1 := cell_below hBx z1
    have y2 := cell_below hBx z2
    have y3 := cell_below hBx z3
    have yg := cell_below hBx g
    go_wp2_with fail
    refine (kL.out (by simp) _ hBx).mono ?_
    rintro e w2 ⟨lb, E, F, L, rfl, hE, hF, hL, e1, _, hBq⟩
    replace d0 := cell_below hBq d0
    replace d1 := cell_below hBq d1
    replace d2 := cell_below hBq d2
    replace d3 := cell_below hBq d3
    replace d4 := cell_below hBq d4
    replace hBx := hBx.trans (hBq.mono hBx.size)
    clear hBq
    have e1 := hid e1
    have y0 := cell_below hBx z0
    have y1 := cell_below hBx z1
    have y2 := cell_below hBx z2
    have y3 := cell_below hBx z3
    have yg := cell_below hBx g
    have hLl := hL.length
    have x1 := cell_sets e1.out (i := so) (by omega)
    have x2 := cell_sets e1.out (i := t) (by omega)
    have hLt := hL.2.2
    have yg' := cell_below hBx g'
    have hin := H2.out (by simp) E F L hL (by omega) (by have := HRL.out; omega) hs1 hs0'
    have hb2 := getD_lt hLt t
    clear hLl hL hF hE hLt
    generalize L.getD so 0 = y at *
    generalize L.getD t 0 = z at *
    have kin : Hid (∀ w, Calls Try.prog 25 #[u64 z, .int .i64 s'] w fun e w' => e = .returned (.bool true) ∧ w' = w) := fun w => (Has_any z s' hb2 w).mono fun e w' ⟨h1, h2⟩ => ⟨by rw [h1, hin], h2.symm⟩
    clear hin hb2
    go_wp2_with fail
    go_quiet ((go_at_call 25; exact Calls.quiet_of_same (kin.out _)))
    go_wp2
    go_ret
    exact ⟨rfl, below_drewN (hb.trans (hBx.mono hsz)) _⟩
  have hs1' : s' < 0 := by omega
  have b6 : decide (0 ≤ s') = false := decide_eq_false (by omega)
  obtain ⟨t', ht'⟩ : ∃ t' : Nat, -1 - s' = (t' : Int) := ⟨(-1 - s').toNat, by omega⟩
  have htn2 : t' < ns := by have := hsv'.out; omega
  have htt' : (-1 - s').toNat = t' := by omega
  rw [htt'] at H3
  have k5 : IntKind.i64.wrap (-1 - s') = (t' : Int) := by rw [IntKind.wrap_i64]; omega
  have k9 : (0 : Int) ≤ (t' : Int) := by omega
  have k10 : (t' : Int) < (ns : Int) := by omega
  have HT' := hid ht'
  clear ht' htt' hsr'
  go_enter Try.func8, Try.ntmps8
  go_wp2_with fail
  rw [← hW1]
  clear hW1
  refine kw.out.mono ?_
  rintro e w1 ⟨rfl, hBx⟩
  have d0 := cell_below hBx c0
  have d1 := cell_below hBx c1
  have d2 := cell_below hBx c2
  have d3 := cell_below hBx c3
  have d4 := cell_below hBx c4
  clear c0 c1 c2 c3 c4
  go_wp2_with fail
  refine (kf.out _ hBx).mono ?_
  rintro e w2 ⟨rfl, hBq⟩
  replace d0 := cell_below hBq d0
  replace d1 := cell_below hBq d1
  replace d2 := cell_below hBq d2
  replace d3 := cell_below hBq d3
  replace d4 := cell_below hBq d4
  replace hBx := hBx.trans (hBq.mono hBx.size)
  clear hBq
  go_wp2_with fail
  refine (kv.out _ hBx).mono ?_
  rintro e w2 ⟨rfl, hBq⟩
  replace d0 := cell_below hBq d0
  replace d1 := cell_below hBq d1
  replace d2 := cell_below hBq d2
  replace d3 := cell_below hBq d3
  replace d4 := cell_below hBq d4
  replace hBx := hBx.trans (hBq.mono hBx.size)
  clear hBq
  have y0 := cell_below hBx z0
  have y1 := cell_below hBx z1
  have y2 := cell_below hBx z2
  have y3 := cell_below hBx z3
  have yg := cell_below hBx g
  go_wp2_with fail
  refine (kL.out (by simp) _ hBx).mono ?_
  rintro e w2 ⟨lb, E, F, L, rfl, hE, hF, hL, e1, _, hBq⟩
  replace d0 := cell_below hBq d0
  replace d1 := cell_below hBq d1
  replace d2 := cell_below hBq d2
  replace d3 := cell_below hBq d3
  replace d4 := cell_below hBq d4
  replace hBx := hBx.trans (hBq.mono hBx.size)
  clear hBq
  have e1 := hid e1
  have y0 := cell_below hBx z0
  have y1 := cell_below hBx z1
  have y2 := cell_below hBx z2
  have y3 := cell_below hBx z3
  have yg := cell_below hBx g
  have hLl := hL.length
  have x1 := cell_sets e1.out (i := so) (by omega)
  have x2 := cell_sets e1.out (i := t) (by omega)
  have hLt := hL.2.2
  have yg' := cell_below hBx g'
  have kF' := hid (kF.out (by simp))
  have HB2 := hid hBx
  go_wp2_with fail
  have hEs := hE
  have HIN := hid (H3.out (by simp) E F L hF hL (by omega) (by have := HRL.out; omega) hs1 hs1')
  have HF := hid hF
  have HE := hid hE
  have hLb := getD_lt hLt t
  clear hLl hL hF hE hEs hLt H1 H2 H3 HV4 HRI HRC kL kF kf kv kw
  generalize L.getD t 0 = z at *
  refine region_T 18 (fun w' => w'.cell? ⟨w.heap.size, 0, none⟩ = some (.slice ta nt tc) ∧ w'.cell? ⟨w.heap.size, 1, none⟩ = some ov ∧ w'.cell? ⟨w.heap.size, 2, none⟩ = some (.slice sa ns sc) ∧ w'.cell? ⟨w.heap.size, 3, none⟩ = some (.slice (some ⟨b, off, none⟩) np pc) ∧ w'.cell? ⟨w.heap.size, 4, none⟩ = some (.int .i64 G.start) ∧
      w'.cell? ⟨rb, ro + (kn + 1), none⟩ = some (.int .i64 s') ∧ w'.cell? ⟨lb, t, none⟩ = some (u64 z)) (by kernel_rfl) ⟨d0, d1, d2, d3, d4, yg', x2⟩ (fun inv hHeld => ?_)
  refine anyT_take (i := 0) (oi := { dst := some 117, op := Op.move (Operand.tmp 7), type := 4, pos := "law.go:177", after := #[], guard := none }) (v := ?_) rfl (by kernel_rfl) (by kernel_rfl) (by kernel_rfl) (by decide) (by decide) (by kernel_rfl) (by kernel_rfl) (fun _ _ _ h => h) (Or.inl ⟨by rfl, ?_⟩) hHeld inv (fun inv => ?_)
  rotate_left
  · intro w hSw
    try dsimp only at hSw
    go_simp
    try with_reducible rfl
  simp only [Act.put, List.setIfInBounds_toArray, List.set_cons_zero, List.set_cons_succ]
  refine anyT_take (i := 1) (oi := { dst := some 118, op := Op.move (Operand.tmp 117), type := 4, pos := "law.go:177", after := #[{ on := 0, ground := Ground.data }], guard := none }) (v := ?_) rfl (by kernel_rfl) (by kernel_rfl) (by kernel_rfl) (by decide) (by decide) (by kernel_rfl) (by kernel_rfl) (fun _ _ _ h => h) (Or.inl ⟨by rfl, ?_⟩) hHeld inv (fun inv => ?_)
  rotate_left
  · intro w hSw
    try dsimp only at hSw
    go_simp
    try with_reducible rfl
  simp only [Act.put, List.setIfInBounds_toArray, List.set_cons_zero, List.set_cons_succ]
  refine anyT_take (i := 2) (oi := { dst := some 119, op := Op.load 27 (Operand.tmp 3), type := 27, pos := "law.go:177", after := #[{ on := 1, ground := Ground.guard }], guard := some (1, true) }) (v := ?_) rfl (by kernel_rfl) (by kernel_rfl) (by kernel_rfl) (by decide) (by decide) (by kernel_rfl) (by kernel_rfl) (fun _ _ _ h => h) (Or.inl ⟨by rfl, ?_⟩) hHeld inv (fun inv => ?_)
  rotate_left
  · intro w hSw
    try dsimp only at hSw
    go_simp
    try with_reducible rfl
  simp only [Act.put, List.setIfInBounds_toArray, List.set_cons_zero, List.set_cons_succ]
  refine anyT_take (i := 4) (oi := { dst := some 121, op := Op.move (Operand.tmp 10), type := 28, pos := "law.go:177", after := #[{ on := 1, ground := Ground.guard }], guard := some (1, true) }) (v := ?_) rfl (by kernel_rfl) (by kernel_rfl) (by kernel_rfl) (by decide) (by decide) (by kernel_rfl) (by kernel_rfl) (fun _ _ _ h => h) (Or.inl ⟨by rfl, ?_⟩) hHeld inv (fun inv => ?_)
  rotate_left
  · intro w hSw
    try dsimp only at hSw
    go_simp
    try with_reducible rfl
  simp only [Act.put, List.setIfInBounds_toArray, List.set_cons_zero, List.set_cons_succ]
  refine anyT_take (i := 5) (oi := { dst := some 122, op := Op.move (Operand.tmp 2), type := 3, pos := "law.go:177", after := #[{ on := 1, ground := Ground.guard }], guard := some (1, true) }) (v := ?_) rfl (by kernel_rfl) (by kernel_rfl) (by kernel_rfl) (by decide) (by decide) (by kernel_rfl) (by kernel_rfl) (fun _ _ _ h => h) (Or.inl ⟨by rfl, ?_⟩) hHeld inv (fun inv => ?_)
  rotate_left
  · intro w hSw
    try dsimp only at hSw
    go_simp
    try with_reducible rfl
  simp only [Act.put, List.setIfInBounds_toArray, List.set_cons_zero, List.set_cons_succ]
  refine anyT_take (i := 6) (oi := { dst := some 123, op := Op.binOp BinOp.add 3 (Operand.tmp 122) (Operand.const (Value.int IntKind.i64 1)) 3, type := 3, pos := "law.go:177", after := #[{ on := 5, ground := Ground.data }, { on := 1, ground := Ground.guard }], guard := some (1, true) }) (v := ?_) rfl (by kernel_rfl) (by kernel_rfl) (by kernel_rfl) (by decide) (by decide) (by kernel_rfl) (by kernel_rfl) (fun _ _ _ h => h) (Or.inl ⟨by rfl, ?_⟩) hHeld inv (fun inv => ?_)
  rotate_left
  · intro w hSw
    try dsimp only at hSw
    go_simp
    try with_reducible rfl
  simp only [Act.put, List.setIfInBounds_toArray, List.set_cons_zero, List.set_cons_succ]
  refine anyT_take (i := 7) (oi := { dst := some 124, op := Op.indexAddr 28 (Operand.tmp 121) (Operand.tmp 123), type := 0, pos := "law.go:177", after := #[{ on := 4, ground := Ground.data }, { on := 6, ground := Ground.data }, { on := 1, ground := Ground.guard }], guard := some (1, true) }) (v := ?_) rfl (by kernel_rfl) (by kernel_rfl) (by kernel_rfl) (by decide) (by decide) (by kernel_rfl) (by kernel_rfl) (fun _ _ _ h => h) (Or.inl ⟨by rfl, ?_⟩) hHeld inv (fun inv => ?_)
  rotate_left
  · intro w hSw
    try dsimp only at hSw
    go_simp
    try with_reducible rfl
  simp only [Act.put, List.setIfInBounds_toArray, List.set_cons_zero, List.set_cons_succ]
  refine anyT_take (i := 8) (oi := { dst := some 125, op := Op.load 42 (Operand.tmp 124), type := 42, pos := "law.go:177", after := #[{ on := 7, ground := Ground.data }, { on := 1, ground := Ground.guard }], guard := some (1, true) }) (v := ?_) rfl (by kernel_rfl) (by kernel_rfl) (by kernel_rfl) (by decide) (by decide) (by kernel_rfl) (by kernel_rfl) (fun _ _ _ h => h) (Or.inl ⟨by rfl, ?_⟩) hHeld inv (fun inv => ?_)
  rotate_left
  · intro w hSw
    try dsimp only at hSw
    go_simp
    try with_reducible rfl
  simp only [Act.put, List.setIfInBounds_toArray, List.set_cons_zero, List.set_cons_succ]
  refine anyT_take (i := 9) (oi := { dst := some 126, op := Op.binOp BinOp.sub 42 (Operand.const (Value.int IntKind.i64 (-1))) (Operand.tmp 125) 42, type := 42, pos := "law.go:177", after := #[{ on := 8, ground := Ground.data }, { on := 1, ground := Ground.guard }], guard := some (1, true) }) (v := ?_) rfl (by kernel_rfl) (by kernel_rfl) (by kernel_rfl) (by decide) (by decide) (by kernel_rfl) (by kernel_rfl) (fun _ _ _ h => h) (Or.inl ⟨by rfl, ?_⟩) hHeld inv (fun inv => ?_)
  rotate_left
  · intro w hSw
    try dsimp only at hSw
    go_simp
    try with_reducible rfl
  simp only [Act.put, List.setIfInBounds_toArray, List.set_cons_zero, List.set_cons_succ]
  refine anyT_take (i := 12) (oi := { dst := some 129, op := Op.move (Operand.tmp 9), type := 36, pos := "law.go:177", after := #[{ on := 1, ground := Ground.guard }], guard := some (1, true) }) (v := ?_) rfl (by kernel_rfl) (by kernel_rfl) (by kernel_rfl) (by decide) (by decide) (by kernel_rfl) (by kernel_rfl) (fun _ _ _ h => h) (Or.inl ⟨by rfl, ?_⟩) hHeld inv (fun inv => ?_)
  rotate_left
  · intro w hSw
    try dsimp only at hSw
    go_simp
    try with_reducible rfl
  simp only [Act.put, List.setIfInBounds_toArray, List.set_cons_zero, List.set_cons_succ]
  refine anyT_take (i := 13) (oi := { dst := some 130, op := Op.move (Operand.tmp 11), type := 42, pos := "law.go:177", after := #[{ on := 1, ground := Ground.guard }], guard := some (1, true) }) (v := ?_) rfl (by kernel_rfl) (by kernel_rfl) (by kernel_rfl) (by decide) (by decide) (by kernel_rfl) (by kernel_rfl) (fun _ _ _ h => h) (Or.inl ⟨by rfl, ?_⟩) hHeld inv (fun inv => ?_)
  rotate_left
  · intro w hSw
    try dsimp only at hSw
    go_simp
    try with_reducible rfl
  simp only [Act.put, List.setIfInBounds_toArray, List.set_cons_zero, List.set_cons_succ]
  refine anyT_take (i := 14) (oi := { dst := some 131, op := Op.indexAddr 36 (Operand.tmp 129) (Operand.tmp 130), type := 0, pos := "law.go:177", after := #[{ on := 12, ground := Ground.data }, { on := 13, ground := Ground.data }, { on := 1, ground := Ground.guard }], guard := some (1, true) }) (v := ?_) rfl (by kernel_rfl) (by kernel_rfl) (by kernel_rfl) (by decide) (by decide) (by kernel_rfl) (by kernel_rfl) (fun _ _ _ h => h) (Or.inl ⟨by rfl, ?_⟩) hHeld inv (fun inv => ?_)
  rotate_left
  · intro w hSw
    try dsimp only at hSw
    go_simp
    try with_reducible rfl
  simp only [Act.put, List.setIfInBounds_toArray, List.set_cons_zero, List.set_cons_succ]
  refine anyT_take (i := 15) (oi := { dst := some 132, op := Op.load 30 (Operand.tmp 131), type := 30, pos := "law.go:177", after := #[{ on := 14, ground := Ground.data }, { on := 1, ground := Ground.guard }], guard := some (1, true) }) (v := ?_) rfl (by kernel_rfl) (by kernel_rfl) (by kernel_rfl) (by decide) (by decide) (by kernel_rfl) (by kernel_rfl) (fun _ _ _ h => h) (Or.inl ⟨by rfl, ?_⟩) hHeld inv (fun inv => ?_)
  rotate_left
  · intro w hSw
    try dsimp only at hSw
    go_simp
    try with_reducible rfl
  simp only [Act.put, List.setIfInBounds_toArray, List.set_cons_zero, List.set_cons_succ]
  refine anyT_next (i := 3) (o := { dst := some 120, op := Op.call { callee := Callee.value (Operand.func 17), args := #[Operand.tmp 119], argTypes := #[27] }, type := 36, pos := "law.go:177", after := #[{ on := 2, ground := Ground.data }, { on := 1, ground := Ground.chain }, { on := 1, ground := Ground.guard }], guard := some (1, true) }) (by kernel_rfl) rfl (by decide) inv (fun inv K' hK => ?_)
  go_simp
  refine (kF'.out _ hBx.drew).mono ?_
  rintro e w5 ⟨fb, E', F', rfl, hE', hF', e3, _, hBq⟩
  have hd : w5.cell? ⟨w.heap.size, 0, none⟩ = some (.slice ta nt tc) ∧ w5.cell? ⟨w.heap.size, 1, none⟩ = some ov ∧ w5.cell? ⟨w.heap.size, 2, none⟩ = some (.slice sa ns sc) ∧ w5.cell? ⟨w.heap.size, 3, none⟩ = some (.slice (some ⟨b, off, none⟩) np pc) ∧ w5.cell? ⟨w.heap.size, 4, none⟩ = some (.int .i64 G.start) ∧
      w5.cell? ⟨rb, ro + (kn + 1), none⟩ = some (.int .i64 s') ∧ w5.cell? ⟨lb, t, none⟩ = some (u64 z) := ⟨cell_below hBq d0, cell_below hBq d1, cell_below hBq d2, cell_below hBq d3, cell_below hBq d4, cell_below hBq yg', cell_below hBq x2⟩
  obtain rfl := HE.out.same hE'
  obtain rfl : F' = F := hF'.sameN HF.out (evF_mono _ _ _ _)
  have hin := HIN.out
  have x3 := cell_sets e3 (i := t') (by rw [hF'.length]; exact htn2)
  have hFb := getD_lt hF'.2.2 t'
  have hBy := hBx.trans ((below_undrew hBq).mono hBx.size)
  clear e3 hF' hE' hBq
  generalize F'.getD t' 0 = y at *
  have kin : Hid (∀ w, Calls Try.prog 24 #[u64 y, u64 z] w fun e w' => e = .returned (.bool true) ∧ w = w') := fun w => (In_any y z hFb hLb w).mono fun e w' ⟨h1, h2⟩ => ⟨by rw [h1, hin], h2⟩
  clear hin
  go_wp2_with fail
  refine hK.out _ _ hd ?_
  clear hK K'
  try simp only [Act.put, List.setIfInBounds_toArray, List.set_cons_zero, List.set_cons_succ]
  refine anyT_take (i := 10) (oi := { dst := some 127, op := Op.indexAddr 36 (Operand.tmp 120) (Operand.tmp 126), type := 0, pos := "law.go:177", after := #[{ on := 3, ground := Ground.data }, { on := 9, ground := Ground.data }, { on := 1, ground := Ground.guard }], guard := some (1, true) }) (v := ?_) rfl (by kernel_rfl) (by kernel_rfl) (by kernel_rfl) (by decide) (by decide) (by kernel_rfl) (by kernel_rfl) (fun _ _ _ h => h) (Or.inl ⟨by rfl, ?_⟩) hd inv (fun inv => ?_)
  rotate_left
  · intro w hSw
    try dsimp only at hSw
    go_simp
    try with_reducible rfl
  simp only [Act.put, List.setIfInBounds_toArray, List.set_cons_zero, List.set_cons_succ]
  refine anyT_next (i := 11) (o := { dst := some 128, op := Op.load 30 (Operand.tmp 127), type := 30, pos := "law.go:177", after := #[{ on := 10, ground := Ground.data }, { on := 1, ground := Ground.guard }], guard := some (1, true) }) (by kernel_rfl) rfl (by decide) inv (fun inv K' hK => ?_)
  go_simp
  refine hK.out _ _ hd ?_
  clear hK K'
  try simp only [Act.put, List.setIfInBounds_toArray, List.set_cons_zero, List.set_cons_succ]
  refine anyT_next (i := 16) (o := { dst := some 133, op := Op.call { callee := Callee.value (Operand.func 24), args := #[Operand.tmp 128, Operand.tmp 132], argTypes := #[30, 30] }, type := 4, pos := "law.go:177", after := #[{ on := 11, ground := Ground.data }, { on := 15, ground := Ground.data }, { on := 3, ground := Ground.chain }, { on := 1, ground := Ground.guard }], guard := some (1, true) }) (by kernel_rfl) rfl (by decide) inv (fun inv K' hK => ?_)
  go_simp
  refine (kin.out _).mono ?_
  rintro e w6 ⟨rfl, rfl⟩
  go_wp2_with fail
  refine hK.out _ _ hd ?_
  clear hK K'
  try simp only [Act.put, List.setIfInBounds_toArray, List.set_cons_zero, List.set_cons_succ]
  refine anyT_take (i := 17) (oi := { dst := some 134, op := Op.pick (Operand.tmp 118) (Operand.tmp 133) (Operand.const (Value.bool false)), type := 4, pos := "law.go:177", after := #[{ on := 1, ground := Ground.data }, { on := 16, ground := Ground.data }], guard := none }) (v := ?_) rfl (by kernel_rfl) (by kernel_rfl) (by kernel_rfl) (by decide) (by decide) (by kernel_rfl) (by kernel_rfl) (fun _ _ _ h => h) (Or.inl ⟨by rfl, ?_⟩) hd inv (fun inv => ?_)
  rotate_left
  · intro w hSw
    try dsimp only at hSw
    go_simp
    try with_reducible rfl
  simp only [Act.put, List.setIfInBounds_toArray, List.set_cons_zero, List.set_cons_succ]
  refine anyT_one (i := 18) (o := { dst := some 6, op := Op.assign (Operand.tmp 134), type := 4, pos := "law.go:177", after := #[{ on := 17, ground := Ground.data }, { on := 16, ground := Ground.chain }, { on := 0, ground := Ground.phase }, { on := 1, ground := Ground.phase }, { on := 2, ground := Ground.phase }, { on := 3, ground := Ground.phase }, { on := 4, ground := Ground.phase }, { on := 5, ground := Ground.phase }, { on := 6, ground := Ground.phase }, { on := 7, ground := Ground.phase }, { on := 8, ground := Ground.phase }, { on := 9, ground := Ground.phase }, { on := 10, ground := Ground.phase }, { on := 11, ground := Ground.phase }, { on := 12, ground := Ground.phase }, { on := 13, ground := Ground.phase }, { on := 14, ground := Ground.phase }, { on := 15, ground := Ground.phase }, { on := 16, ground := Ground.phase }, { on := 17, ground := Ground.phase }], guard := none }) (by kernel_rfl) rfl  (fun K' hK => ?_)
  go_simp
  refine hK.out _ _ (fun h => absurd h (by decide)) ?_
  clear hK K'
  try simp only [Act.put, List.setIfInBounds_toArray, List.set_cons_zero, List.set_cons_succ]
  refine anyT_done (by kernel_rfl) ?_ _
  go_wp2
  go_ret
  exact ⟨rfl, hb.trans (hBy.mono hsz)⟩

end Go.Proofs.Ytmfobiimihaiiaa
