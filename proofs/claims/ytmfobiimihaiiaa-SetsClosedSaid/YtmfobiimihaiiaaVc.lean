/- The walk of the law SetsClosed. -/
import Derived.Test.YtmfobiimihaiiaaMc
import Derived.Test.YtmfobiimihaiiaaLw
import Derived.Test.YtmfobiimihaiiaaHt3
namespace Go.Proofs.Ytmfobiimihaiiaa
open Go Go.RowKit Go.Lib Go.Joins

set_option maxRecDepth 100000 in
set_option maxHeartbeats 4000000 in
theorem closed_walk {G : GD} {gv tv ov sv pv : Value} {tf : Nat → Nat → Value} {rv : Nat → Value} {w : World} (h : GrAt w gv G tv ov sv pv tf rv) :
    Calls Try.prog 4 #[gv] w fun e w' => e = .returned (.bool true) ∧ Below w.heap.size w w' := by
  obtain ⟨W1, B, hW1, hB, c0, c1, c2, c3, c4, hG, hb, hsz⟩ := gr_box h
  subst hB
  have kw := hid (works_any W1)
  have kf := hid fun (W' : World) (hb : Below W1.heap.size W1 W') => few_any (hG.mono hb)
  have kv := hid fun (W' : World) (hb : Below W1.heap.size W1 W') => Valid_any (hG.mono hb)
  have hgv := h.eq
  have hs := hG.sorts
  have ht := hG.terms
  have hp := hG.prods
  subst hgv
  obtain ⟨sa, sc, rfl, hsn, hs⟩ := hs
  obtain ⟨ta, tc, rfl, htn, ht⟩ := ht
  obtain ⟨pa, pc, rfl, hpn, hp⟩ := hp
  have HSC := hid hs
  have HTC := hid ht
  have HPC := hid hp
  clear hs ht hp
  have kFn := hid fun hV (W' : World) (hb : Below W1.heap.size W1 W') => First_not (hG.mono hb) hV
  have kE := hid fun hV (W' : World) (hb : Below W1.heap.size W1 W') => Empty_any (hG.mono hb) hV
  have kV := hid fun hV (W' : World) (hb : Below W1.heap.size W1 W') => Lives_any (hG.mono hb) hV
  have kF := hid fun hV (W' : World) (hb : Below W1.heap.size W1 W') => First_any (hG.mono hb) hV
  have kL := hid fun hV (W' : World) (hb : Below W1.heap.size W1 W') => Follow_any (hG.mono hb) hV
  have kO := hid fun hV (W' : World) (hb : Below W1.heap.size W1 W') (lv : Value) (l : List Int) (b : Nat) (hl : IntsAt W' lv l) (hb0 : b < top) => Of_any (hG.mono hb) hV hl hb0
  have HR := hid hG.rights
  have HCP := hid hG.caps
  have HVP := hid fun hV k => @valid_prod G hV k
  have HST := hid fun hV => @valid_start G hV
  have HFO := hid fun E F L hF hL j k => @closed_follow G E F L hF hL j k
  have HFI := hid fun E F hF j => @closed_first G E F hF j
  clear h hG
  generalize hfb : decide (fewG G) = fb at *
  generalize hvb : validB G = vb at *
  generalize hns : G.sorts.length = ns at *
  generalize hnt : G.terms.length = nt at *
  generalize hnp : G.prods.length = np at *
  cases fb
  · go_enter Try.func4, Try.ntmps4
    go_wp2_with fail
    rw [← hW1]
    clear hW1
    refine kw.out.mono ?_
    rintro e w1 ⟨rfl, hBx⟩
    have d0 := cell_below hBx c0
    have d1 := cell_below hBx c1
    have d2 := cell_below hBx c2
    have d3 := cell_below hBx c3
    have d4 := cell_below hBx c4
    clear c0 c1 c2 c3 c4
    go_wp2_with fail
    refine (kf.out _ hBx).mono ?_
    rintro e w2 ⟨rfl, hBq⟩
    replace d0 := cell_below hBq d0
    replace d1 := cell_below hBq d1
    replace d2 := cell_below hBq d2
    replace d3 := cell_below hBq d3
    replace d4 := cell_below hBq d4
    replace hBx := hBx.trans (hBq.mono hBx.size)
    clear hBq
    go_wp2_with fail
    go_ret
    exact ⟨rfl, hb.trans (hBx.mono hsz)⟩
  cases vb
  · go_enter Try.func4, Try.ntmps4
    go_wp2_with fail
    rw [← hW1]
    clear hW1
    refine kw.out.mono ?_
    rintro e w1 ⟨rfl, hBx⟩
    have d0 := cell_below hBx c0
    have d1 := cell_below hBx c1
    have d2 := cell_below hBx c2
    have d3 := cell_below hBx c3
    have d4 := cell_below hBx c4
    clear c0 c1 c2 c3 c4
    go_wp2_with fail
    refine (kf.out _ hBx).mono ?_
    rintro e w2 ⟨rfl, hBq⟩
    replace d0 := cell_below hBq d0
    replace d1 := cell_below hBq d1
    replace d2 := cell_below hBq d2
    replace d3 := cell_below hBq d3
    replace d4 := cell_below hBq d4
    replace hBx := hBx.trans (hBq.mono hBx.size)
    clear hBq
    go_wp2_with fail
    refine (kv.out _ hBx).mono ?_
    rintro e w2 ⟨rfl, hBq⟩
    replace d0 := cell_below hBq d0
    replace d1 := cell_below hBq d1
    replace d2 := cell_below hBq d2
    replace d3 := cell_below hBq d3
    replace d4 := cell_below hBq d4
    replace hBx := hBx.trans (hBq.mono hBx.size)
    clear hBq
    go_wp2_with fail
    refine (kFn.out (by simp) _ hBx).mono ?_
    rintro e w2 ⟨rfl, hBq⟩
    replace d0 := cell_below hBq d0
    replace d1 := cell_below hBq d1
    replace d2 := cell_below hBq d2
    replace d3 := cell_below hBq d3
    replace d4 := cell_below hBq d4
    replace hBx := hBx.trans (hBq.mono hBx.size)
    clear hBq
    go_wp2_with fail
    go_ret
    exact ⟨rfl, hb.trans (hBx.mono hsz)⟩
  go_enter Try.func4, Try.ntmps4
  go_wp2_with fail
  rw [← hW1]
  clear hW1
  refine kw.out.mono ?_
  rintro e w1 ⟨rfl, hBx⟩
  have d0 := cell_below hBx c0
  have d1 := cell_below hBx c1
  have d2 := cell_below hBx c2
  have d3 := cell_below hBx c3
  have d4 := cell_below hBx c4
  clear c0 c1 c2 c3 c4
  go_wp2_with fail
  refine (kf.out _ hBx).mono ?_
  rintro e w2 ⟨rfl, hBq⟩
  replace d0 := cell_below hBq d0
  replace d1 := cell_below hBq d1
  replace d2 := cell_below hBq d2
  replace d3 := cell_below hBq d3
  replace d4 := cell_below hBq d4
  replace hBx := hBx.trans (hBq.mono hBx.size)
  clear hBq
  go_wp2_with fail
  refine (kv.out _ hBx).mono ?_
  rintro e w2 ⟨rfl, hBq⟩
  replace d0 := cell_below hBq d0
  replace d1 := cell_below hBq d1
  replace d2 := cell_below hBq d2
  replace d3 := cell_below hBq d3
  replace d4 := cell_below hBq d4
  replace hBx := hBx.trans (hBq.mono hBx.size)
  clear hBq
  go_wp2_with fail
  refine (kE.out (by simp) _ hBx).mono ?_
  rintro e w2 ⟨b1, E, rfl, hE, e1, _, hBq⟩
  replace d0 := cell_below hBq d0
  replace d1 := cell_below hBq d1
  replace d2 := cell_below hBq d2
  replace d3 := cell_below hBq d3
  replace d4 := cell_below hBq d4
  replace hBx := hBx.trans (hBq.mono hBx.size)
  have e1 := hid e1
  clear hBq
  go_wp2_with fail
  refine (kF.out (by simp) _ hBx).mono ?_
  rintro e w2 ⟨b2, E', F, rfl, hE', hF, e2, _, hBq⟩
  replace d0 := cell_below hBq d0
  replace d1 := cell_below hBq d1
  replace d2 := cell_below hBq d2
  replace d3 := cell_below hBq d3
  replace d4 := cell_below hBq d4
  replace hBx := hBx.trans (hBq.mono hBx.size)
  have e1 := hid (heap_keep hBq e1.out)
  have e2 := hid e2
  clear hBq
  obtain rfl := hE.same hE'
  go_wp2_with fail
  refine (kL.out (by simp) _ hBx).mono ?_
  rintro e w2 ⟨b3, E', F', L, rfl, hE2, hF', hL, e3, _, hBq⟩
  replace d0 := cell_below hBq d0
  replace d1 := cell_below hBq d1
  replace d2 := cell_below hBq d2
  replace d3 := cell_below hBq d3
  replace d4 := cell_below hBq d4
  replace hBx := hBx.trans (hBq.mono hBx.size)
  have e1 := hid (heap_keep hBq e1.out)
  have e2 := hid (heap_keep hBq e2.out)
  have e3 := hid e3
  clear hBq
  obtain rfl := hE.same hE2
  obtain rfl : F = F' := hF.sameN hF' (evF_mono _ _ _ _)
  go_wp2_with fail
  refine (kV.out (by simp) _ hBx).mono ?_
  rintro e w2 ⟨b4, LV, rfl, hV, e4, _, hBq⟩
  replace d0 := cell_below hBq d0
  replace d1 := cell_below hBq d1
  replace d2 := cell_below hBq d2
  replace d3 := cell_below hBq d3
  replace d4 := cell_below hBq d4
  replace hBx := hBx.trans (hBq.mono hBx.size)
  have e1 := hid (heap_keep hBq e1.out)
  have e2 := hid (heap_keep hBq e2.out)
  have e3 := hid (heap_keep hBq e3.out)
  have e4 := hid e4
  clear hBq
  have L1 := hid hE.length
  have L2 := hid hF.length
  have L3 := hid hL.length
  have L4 := hid hV.length
  have hFt := hid hF.2.2
  have hLt := hid hL.2.2
  have HE := hid hE
  have HF := hid hF
  have HL := hid hL
  have HV := hid hV
  have HFO := hid (HFO.out E F L hF hL)
  have HFI := hid (HFI.out E F hF)
  obtain ⟨st0, st1⟩ := HST.out (by simp)
  obtain ⟨so0, hso0⟩ : ∃ n : Nat, G.start = n := ⟨G.start.toNat, by omega⟩
  have hs0n : so0 < ns := by omega
  have hstart := closed_start hL
  rw [show G.start.toNat = so0 by omega] at hstart
  have HSTART := hid hstart
  rw [hso0] at d4
  have HSO := hid hso0
  rw [hso0] at kO
  clear hE hF hL hV hE' hE2 hF' hstart st0 st1 hso0
  go_wp2_with fail
  go_loopw [9] (fun i wr => ∃ j : Nat, j ≤ np ∧ i = .int .i64 (j : Int) ∧ Below w2.heap.size w2 wr) (fun i _ => np - (RowKit.intOf i).toNat)
  case atStart => exact ⟨0, by omega, rfl, Below.refl _ _⟩
  case round =>
    obtain ⟨j, hj, rfl, hbw⟩ := hrel
    have hB := hBx.trans (hbw.mono hBx.size)
    have f0 := cell_below hbw d0
    have f1 := cell_below hbw d1
    have f2 := cell_below hbw d2
    have f3 := cell_below hbw d3
    have f4 := cell_below hbw d4
    by_cases hlt : j < np
    · obtain ⟨b, off, rfl, hc⟩ := HPC.out (by omega)
      obtain ⟨z0, z1, z2, z3⟩ := hc j hlt
      obtain ⟨v1, v2, v3, v4⟩ := prodB_sortNat (HVP.out (by simp) j (by omega))
      have hR := HR.out j (by omega)
      have hcap := HCP.out j (by omega)
      have HFO := hid fun k => HFO.out j k (by omega)
      have HFI := hid (HFI.out j (by omega))
      have HEC := hid (closed_bool HE.out (j := j) (by omega))
      have HVC := hid (closed_bool HV.out (j := j) (by omega))
      replace z0 := cell_below hB z0
      replace z1 := cell_below hB z1
      replace z2 := cell_below hB z2
      replace z3 := cell_below hB z3
      clear hc
      generalize G.prods.getD j default = P at *
      obtain ⟨⟨ra, rc, hrv, hrn, hrc⟩, hri⟩ := hR
      have hcap := hcap _ _ _ hrv
      have HIA := hid (show IntsAt W1 (.slice ra P.rs.length rc) P.rs from ⟨⟨ra, rc, rfl, hrn, hrc⟩, hri⟩)
      rw [hrv] at z2
      obtain ⟨so, hso⟩ : ∃ so : Nat, P.sort = so := ⟨P.sort.toNat, by omega⟩
      rw [hso] at z1
      have hto : P.sort.toNat = so := by omega
      rw [hto] at HFO HFI HEC HVC
      have hsn : so < ns := by omega
      have HRC := hid hrc
      have HRI := hid hri
      have HV4 := hid v4
      clear hrc hri v4 hrv hso v1 v2 v3 hto
      have i0 : (0 : Int) ≤ (j : Int) := by omega
      have i1 : (j : Int) < (np : Int) := by omega
      generalize hrl : P.rs.length = rl at *
      have HRL := hid hrl
      clear hrl
      obtain ⟨w5, hw5⟩ : ∃ w5, w5 = wr.alloc (.cells #[.string P.lab, .int .i64 (so : Int), .slice ra rl rc, .int .i64 P.cls] 41) := ⟨_, rfl⟩
      have hb5 : Below wr.heap.size wr w5 := by rw [hw5]; exact below_al (Below.refl _ _) _
      have p1 : w5.cell? ⟨wr.heap.size, 1, none⟩ = some (.int .i64 (so : Int)) := by rw [hw5, World.cell?_alloc_mark]; rfl
      have p2 : w5.cell? ⟨wr.heap.size, 2, none⟩ = some (.slice ra rl rc) := by rw [hw5, World.cell?_alloc_mark]; rfl
      have HB5 := hid (hbw.trans (hb5.mono hbw.size))
      clear hb5
      go_wp2_with fail
      rw [← hw5]
      clear hw5 f0 f1 f2 f3 f4 z0 z1 z2 z3
      generalize wr.heap.size = pb at *
      go_loopw [11, 12, 13] (fun al li i wq => ∃ q : Nat, q ≤ rl ∧ al = .bool ((P.rs.take q).all (isK false E)) ∧ li = .bool ((P.rs.take q).all (isK true LV)) ∧ i = .int .i64 (q : Int) ∧ Below w5.heap.size w5 wq) (fun _ _ i _ => rl - (RowKit.intOf i).toNat)
      case atStart => exact ⟨0, by omega, rfl, rfl, rfl, Below.refl _ _⟩
      case round =>
        obtain ⟨q, hq, rfl, rfl, rfl, hbq⟩ := hrel
        have hBB := hid (HB5.out.trans (hbq.mono HB5.out.size))
        have f0 := cell_below hBB.out d0
        have f1 := cell_below hBB.out d1
        have f2 := cell_below hBB.out d2
        have f3 := cell_below hBB.out d3
        have f4 := cell_below hBB.out d4
        have q1 := cell_below hbq p1
        have q2 := cell_below hbq p2
        have j0 : (0 : Int) ≤ (so : Int) := by omega
        have j1 : (so : Int) < (ns : Int) := by omega
        by_cases hql : q < rl
        · obtain ⟨rb, ro, rfl, hcc⟩ := HRC.out (by have := HRL.out; omega)
          have g : W1.cell? ⟨rb, ro + q, none⟩ = some (.int .i64 (P.rs.getD q 0)) := hcc q (by have := HRL.out; omega)
          replace g := cell_below (hBx.trans (hBB.out.mono hBx.size)) g
          have HCUT := hid (cut_at (c := rc) (fun i hi => cell_below (hBx.trans (hBB.out.mono hBx.size)) (hcc i (by have := HRL.out; omega))) HRL.out HRI.out hrn hcap (q + 1))
          have hsv := hid (HV4.out (P.rs.getD q 0) (mem_getD (by have := HRL.out; omega)))
          have hrange := hid (HRI.out (P.rs.getD q 0) (mem_getD (by have := HRL.out; omega)))
          have HFQ := hid (HFO.out q hql)
          have HTA := all_take P.rs (isK false E) 0 q (by have := HRL.out; omega)
          have HTB := all_take P.rs (isK true LV) 0 q (by have := HRL.out; omega)
          clear hcc
          obtain ⟨s, hs⟩ : ∃ s, P.rs.getD q 0 = s := ⟨_, rfl⟩
          rw [hs] at g hsv hrange HFQ HTA HTB
          have k1 : (q : Int) < (rl : Int) := by omega
          have k0 : (0 : Int) ≤ (q : Int) := by omega
          clear hs
          by_cases hs0 : 0 ≤ s
          · have hs1 : ¬ (s < 0) := by omega
            have b5 : decide (s < 0) = false := decide_eq_false hs1
            rw [show isK false E s = false by unfold isK; rw [if_neg hs1]] at HTA
            rw [show isK true LV s = true by unfold isK; rw [if_neg hs1]] at HTB
            have HTA := hid HTA
            have HTB := hid HTB
            generalize (P.rs.take q).all (isK false E) = xa at *
            generalize (P.rs.take q).all (isK true LV) = xb at *
            cases xa <;> cases xb
            all_goals
              go_wp2_with fail
              refine region_T 22 (fun _ => True) (by kernel_rfl) trivial (fun inv hHeld => ?_)
              refine anyT_take (i := 0) (oi := { dst := some 94, op := Op.move (Operand.tmp 14), type := 42, pos := "law.go:82", after := #[], guard := none }) (v := ?_) rfl (by kernel_rfl) (by kernel_rfl) (by kernel_rfl) (by decide) (by decide) (by kernel_rfl) (by kernel_rfl) (fun _ _ _ h => h) (Or.inl ⟨by rfl, ?_⟩) trivial inv (fun inv => ?_)
              rotate_left
              · intro w hSw
                try dsimp only at hSw
                go_simp
                try with_reducible rfl
              simp only [Act.put, List.setIfInBounds_toArray, List.set_cons_zero, List.set_cons_succ]
              refine anyT_take (i := 1) (oi := { dst := some 95, op := Op.binOp BinOp.lss 42 (Operand.tmp 94) (Operand.const (Value.int IntKind.i64 0)) 42, type := 4, pos := "law.go:82", after := #[{ on := 0, ground := Ground.data }], guard := none }) (v := ?_) rfl (by kernel_rfl) (by kernel_rfl) (by kernel_rfl) (by decide) (by decide) (by kernel_rfl) (by kernel_rfl) (fun _ _ _ h => h) (Or.inl ⟨by rfl, ?_⟩) trivial inv (fun inv => ?_)
              rotate_left
              · intro w hSw
                try dsimp only at hSw
                go_simp
                try with_reducible rfl
              simp only [Act.put, List.setIfInBounds_toArray, List.set_cons_zero, List.set_cons_succ]
              refine anyT_take (i := 2) (oi := { dst := some 96, op := Op.move (Operand.tmp 95), type := 4, pos := "law.go:82", after := #[{ on := 1, ground := Ground.data }], guard := none }) (v := ?_) rfl (by kernel_rfl) (by kernel_rfl) (by kernel_rfl) (by decide) (by decide) (by kernel_rfl) (by kernel_rfl) (fun _ _ _ h => h) (Or.inl ⟨by rfl, ?_⟩) trivial inv (fun inv => ?_)
              rotate_left
              · intro w hSw
                try dsimp only at hSw
                go_simp
                try with_reducible rfl
              simp only [Act.put, List.setIfInBounds_toArray, List.set_cons_zero, List.set_cons_succ]
              refine anyT_take (i := 3) (oi := { dst := some 97, op := Op.load 27 (Operand.tmp 1), type := 27, pos := "law.go:82", after := #[{ on := 2, ground := Ground.guard }], guard := some (2, true) }) (v := undef) rfl (by kernel_rfl) (by kernel_rfl) (by kernel_rfl) (by decide) (by decide) (by kernel_rfl) (by kernel_rfl) (fun _ _ _ h => h) (Or.inr ⟨by rfl, rfl⟩) trivial inv (fun inv => ?_)
              simp only [Act.put, List.setIfInBounds_toArray, List.set_cons_zero, List.set_cons_succ]
              refine anyT_take (i := 4) (oi := { dst := some 98, op := Op.fieldAddr 41 (Operand.tmp 10) 2, type := 0, pos := "law.go:82", after := #[{ on := 2, ground := Ground.guard }], guard := some (2, true) }) (v := undef) rfl (by kernel_rfl) (by kernel_rfl) (by kernel_rfl) (by decide) (by decide) (by kernel_rfl) (by kernel_rfl) (fun _ _ _ h => h) (Or.inr ⟨by rfl, rfl⟩) trivial inv (fun inv => ?_)
              simp only [Act.put, List.setIfInBounds_toArray, List.set_cons_zero, List.set_cons_succ]
              refine anyT_take (i := 5) (oi := { dst := some 99, op := Op.load 28 (Operand.tmp 98), type := 28, pos := "law.go:82", after := #[{ on := 4, ground := Ground.data }, { on := 2, ground := Ground.guard }], guard := some (2, true) }) (v := undef) rfl (by kernel_rfl) (by kernel_rfl) (by kernel_rfl) (by decide) (by decide) (by kernel_rfl) (by kernel_rfl) (fun _ _ _ h => h) (Or.inr ⟨by rfl, rfl⟩) trivial inv (fun inv => ?_)
              simp only [Act.put, List.setIfInBounds_toArray, List.set_cons_zero, List.set_cons_succ]
              refine anyT_take (i := 6) (oi := { dst := some 100, op := Op.move (Operand.tmp 13), type := 3, pos := "law.go:82", after := #[{ on := 2, ground := Ground.guard }], guard := some (2, true) }) (v := undef) rfl (by kernel_rfl) (by kernel_rfl) (by kernel_rfl) (by decide) (by decide) (by kernel_rfl) (by kernel_rfl) (fun _ _ _ h => h) (Or.inr ⟨by rfl, rfl⟩) trivial inv (fun inv => ?_)
              simp only [Act.put, List.setIfInBounds_toArray, List.set_cons_zero, List.set_cons_succ]
              refine anyT_take (i := 7) (oi := { dst := some 101, op := Op.binOp BinOp.add 3 (Operand.tmp 100) (Operand.const (Value.int IntKind.i64 1)) 3, type := 3, pos := "law.go:82", after := #[{ on := 6, ground := Ground.data }, { on := 2, ground := Ground.guard }], guard := some (2, true) }) (v := undef) rfl (by kernel_rfl) (by kernel_rfl) (by kernel_rfl) (by decide) (by decide) (by kernel_rfl) (by kernel_rfl) (fun _ _ _ h => h) (Or.inr ⟨by rfl, rfl⟩) trivial inv (fun inv => ?_)
              simp only [Act.put, List.setIfInBounds_toArray, List.set_cons_zero, List.set_cons_succ]
              refine anyT_take (i := 8) (oi := { dst := some 102, op := Op.slice 28 (Operand.tmp 99) (some (Operand.tmp 101)) none none, type := 28, pos := "law.go:82", after := #[{ on := 5, ground := Ground.data }, { on := 7, ground := Ground.data }, { on := 2, ground := Ground.guard }], guard := some (2, true) }) (v := undef) rfl (by kernel_rfl) (by kernel_rfl) (by kernel_rfl) (by decide) (by decide) (by kernel_rfl) (by kernel_rfl) (fun _ _ _ h => h) (Or.inr ⟨by rfl, rfl⟩) trivial inv (fun inv => ?_)
              simp only [Act.put, List.setIfInBounds_toArray, List.set_cons_zero, List.set_cons_succ]
              refine anyT_take (i := 9) (oi := { dst := some 103, op := Op.move (Operand.tmp 7), type := 36, pos := "law.go:82", after := #[{ on := 2, ground := Ground.guard }], guard := some (2, true) }) (v := undef) rfl (by kernel_rfl) (by kernel_rfl) (by kernel_rfl) (by decide) (by decide) (by kernel_rfl) (by kernel_rfl) (fun _ _ _ h => h) (Or.inr ⟨by rfl, rfl⟩) trivial inv (fun inv => ?_)
              simp only [Act.put, List.setIfInBounds_toArray, List.set_cons_zero, List.set_cons_succ]
              refine anyT_take (i := 10) (oi := { dst := some 104, op := Op.fieldAddr 41 (Operand.tmp 10) 1, type := 0, pos := "law.go:82", after := #[{ on := 2, ground := Ground.guard }], guard := some (2, true) }) (v := undef) rfl (by kernel_rfl) (by kernel_rfl) (by kernel_rfl) (by decide) (by decide) (by kernel_rfl) (by kernel_rfl) (fun _ _ _ h => h) (Or.inr ⟨by rfl, rfl⟩) trivial inv (fun inv => ?_)
              simp only [Act.put, List.setIfInBounds_toArray, List.set_cons_zero, List.set_cons_succ]
              refine anyT_take (i := 11) (oi := { dst := some 105, op := Op.load 3 (Operand.tmp 104), type := 3, pos := "law.go:82", after := #[{ on := 10, ground := Ground.data }, { on := 2, ground := Ground.guard }], guard := some (2, true) }) (v := undef) rfl (by kernel_rfl) (by kernel_rfl) (by kernel_rfl) (by decide) (by decide) (by kernel_rfl) (by kernel_rfl) (fun _ _ _ h => h) (Or.inr ⟨by rfl, rfl⟩) trivial inv (fun inv => ?_)
              simp only [Act.put, List.setIfInBounds_toArray, List.set_cons_zero, List.set_cons_succ]
              refine anyT_take (i := 12) (oi := { dst := some 106, op := Op.indexAddr 36 (Operand.tmp 103) (Operand.tmp 105), type := 0, pos := "law.go:82", after := #[{ on := 9, ground := Ground.data }, { on := 11, ground := Ground.data }, { on := 2, ground := Ground.guard }], guard := some (2, true) }) (v := undef) rfl (by kernel_rfl) (by kernel_rfl) (by kernel_rfl) (by decide) (by decide) (by kernel_rfl) (by kernel_rfl) (fun _ _ _ h => h) (Or.inr ⟨by rfl, rfl⟩) trivial inv (fun inv => ?_)
              simp only [Act.put, List.setIfInBounds_toArray, List.set_cons_zero, List.set_cons_succ]
              refine anyT_take (i := 13) (oi := { dst := some 107, op := Op.load 30 (Operand.tmp 106), type := 30, pos := "law.go:82", after := #[{ on := 12, ground := Ground.data }, { on := 2, ground := Ground.guard }], guard := some (2, true) }) (v := undef) rfl (by kernel_rfl) (by kernel_rfl) (by kernel_rfl) (by decide) (by decide) (by kernel_rfl) (by kernel_rfl) (fun _ _ _ h => h) (Or.inr ⟨by rfl, rfl⟩) trivial inv (fun inv => ?_)
              simp only [Act.put, List.setIfInBounds_toArray, List.set_cons_zero, List.set_cons_succ]
              refine anyT_take (i := 14) (oi := { dst := some 108, op := Op.call { callee := Callee.value (Operand.func 21), args := #[Operand.tmp 97, Operand.tmp 102, Operand.tmp 107], argTypes := #[27, 28, 30] }, type := 30, pos := "law.go:82", after := #[{ on := 3, ground := Ground.data }, { on := 8, ground := Ground.data }, { on := 13, ground := Ground.data }, { on := 2, ground := Ground.chain }, { on := 2, ground := Ground.guard }], guard := some (2, true) }) (v := undef) rfl (by kernel_rfl) (by kernel_rfl) (by kernel_rfl) (by decide) (by decide) (by kernel_rfl) (by kernel_rfl) (fun _ _ _ h => h) (Or.inr ⟨by rfl, rfl⟩) trivial inv (fun inv => ?_)
              simp only [Act.put, List.setIfInBounds_toArray, List.set_cons_zero, List.set_cons_succ]
              refine anyT_take (i := 15) (oi := { dst := some 109, op := Op.move (Operand.tmp 7), type := 36, pos := "law.go:82", after := #[{ on := 2, ground := Ground.guard }], guard := some (2, true) }) (v := undef) rfl (by kernel_rfl) (by kernel_rfl) (by kernel_rfl) (by decide) (by decide) (by kernel_rfl) (by kernel_rfl) (fun _ _ _ h => h) (Or.inr ⟨by rfl, rfl⟩) trivial inv (fun inv => ?_)
              simp only [Act.put, List.setIfInBounds_toArray, List.set_cons_zero, List.set_cons_succ]
              refine anyT_take (i := 16) (oi := { dst := some 110, op := Op.move (Operand.tmp 14), type := 42, pos := "law.go:82", after := #[{ on := 2, ground := Ground.guard }], guard := some (2, true) }) (v := undef) rfl (by kernel_rfl) (by kernel_rfl) (by kernel_rfl) (by decide) (by decide) (by kernel_rfl) (by kernel_rfl) (fun _ _ _ h => h) (Or.inr ⟨by rfl, rfl⟩) trivial inv (fun inv => ?_)
              simp only [Act.put, List.setIfInBounds_toArray, List.set_cons_zero, List.set_cons_succ]
              refine anyT_take (i := 17) (oi := { dst := some 111, op := Op.binOp BinOp.sub 42 (Operand.const (Value.int IntKind.i64 (-1))) (Operand.tmp 110) 42, type := 42, pos := "law.go:82", after := #[{ on := 16, ground := Ground.data }, { on := 2, ground := Ground.guard }], guard := some (2, true) }) (v := undef) rfl (by kernel_rfl) (by kernel_rfl) (by kernel_rfl) (by decide) (by decide) (by kernel_rfl) (by kernel_rfl) (fun _ _ _ h => h) (Or.inr ⟨by rfl, rfl⟩) trivial inv (fun inv => ?_)
              simp only [Act.put, List.setIfInBounds_toArray, List.set_cons_zero, List.set_cons_succ]
              refine anyT_take (i := 18) (oi := { dst := some 112, op := Op.indexAddr 36 (Operand.tmp 109) (Operand.tmp 111), type := 0, pos := "law.go:82", after := #[{ on := 15, ground := Ground.data }, { on := 17, ground := Ground.data }, { on := 2, ground := Ground.guard }], guard := some (2, true) }) (v := undef) rfl (by kernel_rfl) (by kernel_rfl) (by kernel_rfl) (by decide) (by decide) (by kernel_rfl) (by kernel_rfl) (fun _ _ _ h => h) (Or.inr ⟨by rfl, rfl⟩) trivial inv (fun inv => ?_)
              simp only [Act.put, List.setIfInBounds_toArray, List.set_cons_zero, List.set_cons_succ]
              refine anyT_take (i := 19) (oi := { dst := some 113, op := Op.load 30 (Operand.tmp 112), type := 30, pos := "law.go:82", after := #[{ on := 18, ground := Ground.data }, { on := 2, ground := Ground.guard }], guard := some (2, true) }) (v := undef) rfl (by kernel_rfl) (by kernel_rfl) (by kernel_rfl) (by decide) (by decide) (by kernel_rfl) (by kernel_rfl) (fun _ _ _ h => h) (Or.inr ⟨by rfl, rfl⟩) trivial inv (fun inv => ?_)
              simp only [Act.put, List.setIfInBounds_toArray, List.set_cons_zero, List.set_cons_succ]
              refine anyT_take (i := 20) (oi := { dst := some 114, op := Op.call { callee := Callee.value (Operand.func 24), args := #[Operand.tmp 108, Operand.tmp 113], argTypes := #[30, 30] }, type := 4, pos := "law.go:82", after := #[{ on := 14, ground := Ground.data }, { on := 19, ground := Ground.data }, { on := 14, ground := Ground.chain }, { on := 2, ground := Ground.guard }], guard := some (2, true) }) (v := undef) rfl (by kernel_rfl) (by kernel_rfl) (by kernel_rfl) (by decide) (by decide) (by kernel_rfl) (by kernel_rfl) (fun _ _ _ h => h) (Or.inr ⟨by rfl, rfl⟩) trivial inv (fun inv => ?_)
              simp only [Act.put, List.setIfInBounds_toArray, List.set_cons_zero, List.set_cons_succ]
              refine anyT_take (i := 21) (oi := { dst := some 115, op := Op.unOp UnOp.not 4 (Operand.tmp 114), type := 4, pos := "law.go:82", after := #[{ on := 20, ground := Ground.data }, { on := 2, ground := Ground.guard }], guard := some (2, true) }) (v := undef) rfl (by kernel_rfl) (by kernel_rfl) (by kernel_rfl) (by decide) (by decide) (by kernel_rfl) (by kernel_rfl) (fun _ _ _ h => h) (Or.inr ⟨by rfl, rfl⟩) trivial inv (fun inv => ?_)
              simp only [Act.put, List.setIfInBounds_toArray, List.set_cons_zero, List.set_cons_succ]
              refine anyT_one (i := 22) (o := { dst := some 116, op := Op.pick (Operand.tmp 96) (Operand.tmp 115) (Operand.const (Value.bool false)), type := 4, pos := "law.go:82", after := #[{ on := 2, ground := Ground.data }, { on := 21, ground := Ground.data }], guard := none }) (by kernel_rfl) rfl (fun K' hK => ?_)
              go_simp
              refine hK.out _ _ (fun h => absurd h (by decide)) ?_
              clear hK K'
              try simp only [Act.put, List.setIfInBounds_toArray, List.set_cons_zero, List.set_cons_succ]
              refine anyT_done (by kernel_rfl) ?_ _
              go_wp2
              exact ⟨⟨q + 1, by omega, by rw [HTA.out] <;> rfl, by rw [HTB.out] <;> rfl, by go_num, hbq.drew⟩, by simp [RowKit.intOf]; omega⟩
          · have hs1 : s < 0 := by omega
            have b5 : decide (s < 0) = true := decide_eq_true hs1
            obtain ⟨t, ht⟩ : ∃ t : Nat, -1 - s = (t : Int) := ⟨(-1 - s).toNat, by omega⟩
            have htn : t < ns := by have := hsv.out; omega
            have hsr := hrange.out
            have i5 : IntKind.i64.wrap (-1 - s) = (t : Int) := by rw [IntKind.wrap_i64]; omega
            have i6 : IntKind.i64.wrap ((q : Int) + 1) = (q : Int) + 1 := by rw [IntKind.wrap_i64]; omega
            have i7 : (0 : Int) ≤ (t : Int) := by omega
            have i8 : (t : Int) < (ns : Int) := by omega
            rw [show isK false E s = E.getD t false by unfold isK; rw [if_pos hs1, show (-1 - s).toNat = t by omega]] at HTA
            rw [show isK true LV s = LV.getD t false by unfold isK; rw [if_pos hs1, show (-1 - s).toNat = t by omega]] at HTB
            have x1 := cell_bools (heap_keep hBB.out e1.out) (i := t) (by have := L1.out; omega)
            have x4 := cell_bools (heap_keep hBB.out e4.out) (i := t) (by have := L4.out; omega)
            have x3 := cell_sets (heap_keep hBB.out e3.out) (i := t) (by have := L3.out; omega)
            have y3 := cell_sets (heap_keep hBB.out e3.out) (i := so) (by have := L3.out; omega)
            have hin := HFQ.out hs1
            rw [show (-1 - s).toNat = t by omega] at hin
            have hlt1 := getD_lt hLt.out so
            have hlt2 := getD_lt hLt.out t
            have kcut := run_cut rb ro rl rc q (by omega)
            have hx := hid (ofRow_lt nt E hFt.out (P.rs.drop (q + 1)) hlt1)
            have HIN := hid hin
            have HTA := hid HTA
            have HTB := hid HTB
            clear hsr hin
            have HT := hid ht
            clear ht
            generalize (P.rs.take q).all (isK false E) = xa at *
            generalize (P.rs.take q).all (isK true LV) = xb at *
            generalize E.getD t false = ea at *
            generalize LV.getD t false = eb at *
            generalize hy : L.getD so 0 = y at *
            generalize L.getD t 0 = z at *
            generalize cutV rb ro rl rc (q + 1) = cv at *
            clear hy
            cases xa <;> cases xb
            all_goals
              go_wp2_with fail
              refine region_T 22 (fun w' => w'.cell? ⟨w.heap.size, 0, none⟩ = some (.slice ta nt tc) ∧ w'.cell? ⟨w.heap.size, 1, none⟩ = some ov ∧ w'.cell? ⟨w.heap.size, 2, none⟩ = some (.slice sa ns sc) ∧ w'.cell? ⟨w.heap.size, 3, none⟩ = some (.slice (some ⟨b, off, none⟩) np pc) ∧ w'.cell? ⟨w.heap.size, 4, none⟩ = some (.int .i64 (so0 : Int)) ∧ w'.cell? ⟨pb, 1, none⟩ = some (.int .i64 (so : Int)) ∧ w'.cell? ⟨pb, 2, none⟩ = some (.slice (some ⟨rb, ro, none⟩) rl rc) ∧ w'.cell? ⟨b3, so, none⟩ = some (.int .u64 (y : Int)) ∧ w'.cell? ⟨b3, t, none⟩ = some (.int .u64 (z : Int))) (by kernel_rfl) ⟨f0, f1, f2, f3, f4, q1, q2, y3, x3⟩ (fun inv hHeld => ?_)
              refine anyT_take (i := 0) (oi := { dst := some 94, op := Op.move (Operand.tmp 14), type := 42, pos := "law.go:82", after := #[], guard := none }) (v := ?_) rfl (by kernel_rfl) (by kernel_rfl) (by kernel_rfl) (by decide) (by decide) (by kernel_rfl) (by kernel_rfl) (fun _ _ _ h => h) (Or.inl ⟨by rfl, ?_⟩) hHeld inv (fun inv => ?_)
              rotate_left
              · intro w hSw
                try dsimp only at hSw
                go_simp
                try with_reducible rfl
              simp only [Act.put, List.setIfInBounds_toArray, List.set_cons_zero, List.set_cons_succ]
              refine anyT_take (i := 1) (oi := { dst := some 95, op := Op.binOp BinOp.lss 42 (Operand.tmp 94) (Operand.const (Value.int IntKind.i64 0)) 42, type := 4, pos := "law.go:82", after := #[{ on := 0, ground := Ground.data }], guard := none }) (v := ?_) rfl (by kernel_rfl) (by kernel_rfl) (by kernel_rfl) (by decide) (by decide) (by kernel_rfl) (by kernel_rfl) (fun _ _ _ h => h) (Or.inl ⟨by rfl, ?_⟩) hHeld inv (fun inv => ?_)
              rotate_left
              · intro w hSw
                try dsimp only at hSw
                go_simp
                try with_reducible rfl
              simp only [Act.put, List.setIfInBounds_toArray, List.set_cons_zero, List.set_cons_succ]
              refine anyT_take (i := 2) (oi := { dst := some 96, op := Op.move (Operand.tmp 95), type := 4, pos := "law.go:82", after := #[{ on := 1, ground := Ground.data }], guard := none }) (v := ?_) rfl (by kernel_rfl) (by kernel_rfl) (by kernel_rfl) (by decide) (by decide) (by kernel_rfl) (by kernel_rfl) (fun _ _ _ h => h) (Or.inl ⟨by rfl, ?_⟩) hHeld inv (fun inv => ?_)
              rotate_left
              · intro w hSw
                try dsimp only at hSw
                go_simp
                try with_reducible rfl
              simp only [Act.put, List.setIfInBounds_toArray, List.set_cons_zero, List.set_cons_succ]
              refine anyT_take (i := 3) (oi := { dst := some 97, op := Op.load 27 (Operand.tmp 1), type := 27, pos := "law.go:82", after := #[{ on := 2, ground := Ground.guard }], guard := some (2, true) }) (v := ?_) rfl (by kernel_rfl) (by kernel_rfl) (by kernel_rfl) (by decide) (by decide) (by kernel_rfl) (by kernel_rfl) (fun _ _ _ h => h) (Or.inl ⟨by rfl, ?_⟩) hHeld inv (fun inv => ?_)
              rotate_left
              · intro w hSw
                try dsimp only at hSw
                go_simp
                try with_reducible rfl
              simp only [Act.put, List.setIfInBounds_toArray, List.set_cons_zero, List.set_cons_succ]
              refine anyT_take (i := 4) (oi := { dst := some 98, op := Op.fieldAddr 41 (Operand.tmp 10) 2, type := 0, pos := "law.go:82", after := #[{ on := 2, ground := Ground.guard }], guard := some (2, true) }) (v := ?_) rfl (by kernel_rfl) (by kernel_rfl) (by kernel_rfl) (by decide) (by decide) (by kernel_rfl) (by kernel_rfl) (fun _ _ _ h => h) (Or.inl ⟨by rfl, ?_⟩) hHeld inv (fun inv => ?_)
              rotate_left
              · intro w hSw
                try dsimp only at hSw
                go_simp
                try with_reducible rfl
              simp only [Act.put, List.setIfInBounds_toArray, List.set_cons_zero, List.set_cons_succ]
              refine anyT_take (i := 5) (oi := { dst := some 99, op := Op.load 28 (Operand.tmp 98), type := 28, pos := "law.go:82", after := #[{ on := 4, ground := Ground.data }, { on := 2, ground := Ground.guard }], guard := some (2, true) }) (v := ?_) rfl (by kernel_rfl) (by kernel_rfl) (by kernel_rfl) (by decide) (by decide) (by kernel_rfl) (by kernel_rfl) (fun _ _ _ h => h) (Or.inl ⟨by rfl, ?_⟩) hHeld inv (fun inv => ?_)
              rotate_left
              · intro w hSw
                try dsimp only at hSw
                go_simp
                try with_reducible rfl
              simp only [Act.put, List.setIfInBounds_toArray, List.set_cons_zero, List.set_cons_succ]
              refine anyT_take (i := 6) (oi := { dst := some 100, op := Op.move (Operand.tmp 13), type := 3, pos := "law.go:82", after := #[{ on := 2, ground := Ground.guard }], guard := some (2, true) }) (v := ?_) rfl (by kernel_rfl) (by kernel_rfl) (by kernel_rfl) (by decide) (by decide) (by kernel_rfl) (by kernel_rfl) (fun _ _ _ h => h) (Or.inl ⟨by rfl, ?_⟩) hHeld inv (fun inv => ?_)
              rotate_left
              · intro w hSw
                try dsimp only at hSw
                go_simp
                try with_reducible rfl
              simp only [Act.put, List.setIfInBounds_toArray, List.set_cons_zero, List.set_cons_succ]
              refine anyT_take (i := 7) (oi := { dst := some 101, op := Op.binOp BinOp.add 3 (Operand.tmp 100) (Operand.const (Value.int IntKind.i64 1)) 3, type := 3, pos := "law.go:82", after := #[{ on := 6, ground := Ground.data }, { on := 2, ground := Ground.guard }], guard := some (2, true) }) (v := ?_) rfl (by kernel_rfl) (by kernel_rfl) (by kernel_rfl) (by decide) (by decide) (by kernel_rfl) (by kernel_rfl) (fun _ _ _ h => h) (Or.inl ⟨by rfl, ?_⟩) hHeld inv (fun inv => ?_)
              rotate_left
              · intro w hSw
                try dsimp only at hSw
                go_simp
                try with_reducible rfl
              simp only [Act.put, List.setIfInBounds_toArray, List.set_cons_zero, List.set_cons_succ]
              refine anyT_take (i := 8) (oi := { dst := some 102, op := Op.slice 28 (Operand.tmp 99) (some (Operand.tmp 101)) none none, type := 28, pos := "law.go:82", after := #[{ on := 5, ground := Ground.data }, { on := 7, ground := Ground.data }, { on := 2, ground := Ground.guard }], guard := some (2, true) }) (v := ?_) rfl (by kernel_rfl) (by kernel_rfl) (by kernel_rfl) (by decide) (by decide) (by kernel_rfl) (by kernel_rfl) (fun _ _ _ h => h) (Or.inl ⟨by rfl, ?_⟩) hHeld inv (fun inv => ?_)
              rotate_left
              · intro w hSw
                try dsimp only at hSw
                go_simp
                try with_reducible rfl
              simp only [Act.put, List.setIfInBounds_toArray, List.set_cons_zero, List.set_cons_succ]
              refine anyT_take (i := 9) (oi := { dst := some 103, op := Op.move (Operand.tmp 7), type := 36, pos := "law.go:82", after := #[{ on := 2, ground := Ground.guard }], guard := some (2, true) }) (v := ?_) rfl (by kernel_rfl) (by kernel_rfl) (by kernel_rfl) (by decide) (by decide) (by kernel_rfl) (by kernel_rfl) (fun _ _ _ h => h) (Or.inl ⟨by rfl, ?_⟩) hHeld inv (fun inv => ?_)
              rotate_left
              · intro w hSw
                try dsimp only at hSw
                go_simp
                try with_reducible rfl
              simp only [Act.put, List.setIfInBounds_toArray, List.set_cons_zero, List.set_cons_succ]
              refine anyT_take (i := 10) (oi := { dst := some 104, op := Op.fieldAddr 41 (Operand.tmp 10) 1, type := 0, pos := "law.go:82", after := #[{ on := 2, ground := Ground.guard }], guard := some (2, true) }) (v := ?_) rfl (by kernel_rfl) (by kernel_rfl) (by kernel_rfl) (by decide) (by decide) (by kernel_rfl) (by kernel_rfl) (fun _ _ _ h => h) (Or.inl ⟨by rfl, ?_⟩) hHeld inv (fun inv => ?_)
              rotate_left
              · intro w hSw
                try dsimp only at hSw
                go_simp
                try with_reducible rfl
              simp only [Act.put, List.setIfInBounds_toArray, List.set_cons_zero, List.set_cons_succ]
              refine anyT_take (i := 11) (oi := { dst := some 105, op := Op.load 3 (Operand.tmp 104), type := 3, pos := "law.go:82", after := #[{ on := 10, ground := Ground.data }, { on := 2, ground := Ground.guard }], guard := some (2, true) }) (v := ?_) rfl (by kernel_rfl) (by kernel_rfl) (by kernel_rfl) (by decide) (by decide) (by kernel_rfl) (by kernel_rfl) (fun _ _ _ h => h) (Or.inl ⟨by rfl, ?_⟩) hHeld inv (fun inv => ?_)
              rotate_left
              · intro w hSw
                try dsimp only at hSw
                go_simp
                try with_reducible rfl
              simp only [Act.put, List.setIfInBounds_toArray, List.set_cons_zero, List.set_cons_succ]
              refine anyT_take (i := 12) (oi := { dst := some 106, op := Op.indexAddr 36 (Operand.tmp 103) (Operand.tmp 105), type := 0, pos := "law.go:82", after := #[{ on := 9, ground := Ground.data }, { on := 11, ground := Ground.data }, { on := 2, ground := Ground.guard }], guard := some (2, true) }) (v := ?_) rfl (by kernel_rfl) (by kernel_rfl) (by kernel_rfl) (by decide) (by decide) (by kernel_rfl) (by kernel_rfl) (fun _ _ _ h => h) (Or.inl ⟨by rfl, ?_⟩) hHeld inv (fun inv => ?_)
              rotate_left
              · intro w hSw
                try dsimp only at hSw
                go_simp
                try with_reducible rfl
              simp only [Act.put, List.setIfInBounds_toArray, List.set_cons_zero, List.set_cons_succ]
              refine anyT_take (i := 13) (oi := { dst := some 107, op := Op.load 30 (Operand.tmp 106), type := 30, pos := "law.go:82", after := #[{ on := 12, ground := Ground.data }, { on := 2, ground := Ground.guard }], guard := some (2, true) }) (v := ?_) rfl (by kernel_rfl) (by kernel_rfl) (by kernel_rfl) (by decide) (by decide) (by kernel_rfl) (by kernel_rfl) (fun _ _ _ h => h) (Or.inl ⟨by rfl, ?_⟩) hHeld inv (fun inv => ?_)
              rotate_left
              · intro w hSw
                try dsimp only at hSw
                go_simp
                try with_reducible rfl
              simp only [Act.put, List.setIfInBounds_toArray, List.set_cons_zero, List.set_cons_succ]
              refine anyT_take (i := 15) (oi := { dst := some 109, op := Op.move (Operand.tmp 7), type := 36, pos := "law.go:82", after := #[{ on := 2, ground := Ground.guard }], guard := some (2, true) }) (v := ?_) rfl (by kernel_rfl) (by kernel_rfl) (by kernel_rfl) (by decide) (by decide) (by kernel_rfl) (by kernel_rfl) (fun _ _ _ h => h) (Or.inl ⟨by rfl, ?_⟩) hHeld inv (fun inv => ?_)
              rotate_left
              · intro w hSw
                try dsimp only at hSw
                go_simp
                try with_reducible rfl
              simp only [Act.put, List.setIfInBounds_toArray, List.set_cons_zero, List.set_cons_succ]
              refine anyT_take (i := 16) (oi := { dst := some 110, op := Op.move (Operand.tmp 14), type := 42, pos := "law.go:82", after := #[{ on := 2, ground := Ground.guard }], guard := some (2, true) }) (v := ?_) rfl (by kernel_rfl) (by kernel_rfl) (by kernel_rfl) (by decide) (by decide) (by kernel_rfl) (by kernel_rfl) (fun _ _ _ h => h) (Or.inl ⟨by rfl, ?_⟩) hHeld inv (fun inv => ?_)
              rotate_left
              · intro w hSw
                try dsimp only at hSw
                go_simp
                try with_reducible rfl
              simp only [Act.put, List.setIfInBounds_toArray, List.set_cons_zero, List.set_cons_succ]
              refine anyT_take (i := 17) (oi := { dst := some 111, op := Op.binOp BinOp.sub 42 (Operand.const (Value.int IntKind.i64 (-1))) (Operand.tmp 110) 42, type := 42, pos := "law.go:82", after := #[{ on := 16, ground := Ground.data }, { on := 2, ground := Ground.guard }], guard := some (2, true) }) (v := ?_) rfl (by kernel_rfl) (by kernel_rfl) (by kernel_rfl) (by decide) (by decide) (by kernel_rfl) (by kernel_rfl) (fun _ _ _ h => h) (Or.inl ⟨by rfl, ?_⟩) hHeld inv (fun inv => ?_)
              rotate_left
              · intro w hSw
                try dsimp only at hSw
                go_simp
                try with_reducible rfl
              simp only [Act.put, List.setIfInBounds_toArray, List.set_cons_zero, List.set_cons_succ]
              refine anyT_take (i := 18) (oi := { dst := some 112, op := Op.indexAddr 36 (Operand.tmp 109) (Operand.tmp 111), type := 0, pos := "law.go:82", after := #[{ on := 15, ground := Ground.data }, { on := 17, ground := Ground.data }, { on := 2, ground := Ground.guard }], guard := some (2, true) }) (v := ?_) rfl (by kernel_rfl) (by kernel_rfl) (by kernel_rfl) (by decide) (by decide) (by kernel_rfl) (by kernel_rfl) (fun _ _ _ h => h) (Or.inl ⟨by rfl, ?_⟩) hHeld inv (fun inv => ?_)
              rotate_left
              · intro w hSw
                try dsimp only at hSw
                go_simp
                try with_reducible rfl
              simp only [Act.put, List.setIfInBounds_toArray, List.set_cons_zero, List.set_cons_succ]
              refine anyT_take (i := 19) (oi := { dst := some 113, op := Op.load 30 (Operand.tmp 112), type := 30, pos := "law.go:82", after := #[{ on := 18, ground := Ground.data }, { on := 2, ground := Ground.guard }], guard := some (2, true) }) (v := ?_) rfl (by kernel_rfl) (by kernel_rfl) (by kernel_rfl) (by decide) (by decide) (by kernel_rfl) (by kernel_rfl) (fun _ _ _ h => h) (Or.inl ⟨by rfl, ?_⟩) hHeld inv (fun inv => ?_)
              rotate_left
              · intro w hSw
                try dsimp only at hSw
                go_simp
                try with_reducible rfl
              simp only [Act.put, List.setIfInBounds_toArray, List.set_cons_zero, List.set_cons_succ]
              refine anyT_next (i := 14) (o := { dst := some 108, op := Op.call { callee := Callee.value (Operand.func 21), args := #[Operand.tmp 97, Operand.tmp 102, Operand.tmp 107], argTypes := #[27, 28, 30] }, type := 30, pos := "law.go:82", after := #[{ on := 3, ground := Ground.data }, { on := 8, ground := Ground.data }, { on := 13, ground := Ground.data }, { on := 2, ground := Ground.chain }, { on := 2, ground := Ground.guard }], guard := some (2, true) }) (by kernel_rfl) rfl (by decide) inv (fun inv K' hK => ?_)
              go_simp
              refine (kO.out (by simp) _ (hBx.trans (hBB.out.mono hBx.size)).drew cv (P.rs.drop (q + 1)) y HCUT.out hlt1).mono ?_
              rintro e w7 ⟨E', F', rfl, hE', hF', hBo⟩
              obtain rfl := HE.out.same hE'
              obtain rfl : F' = F := hF'.sameN HF.out (evF_mono _ _ _ _)
              have hd : w7.cell? ⟨w.heap.size, 0, none⟩ = some (.slice ta nt tc) ∧ w7.cell? ⟨w.heap.size, 1, none⟩ = some ov ∧ w7.cell? ⟨w.heap.size, 2, none⟩ = some (.slice sa ns sc) ∧ w7.cell? ⟨w.heap.size, 3, none⟩ = some (.slice (some ⟨b, off, none⟩) np pc) ∧ w7.cell? ⟨w.heap.size, 4, none⟩ = some (.int .i64 (so0 : Int)) ∧ w7.cell? ⟨pb, 1, none⟩ = some (.int .i64 (so : Int)) ∧ w7.cell? ⟨pb, 2, none⟩ = some (.slice (some ⟨rb, ro, none⟩) rl rc) ∧ w7.cell? ⟨b3, so, none⟩ = some (.int .u64 (y : Int)) ∧ w7.cell? ⟨b3, t, none⟩ = some (.int .u64 (z : Int)) := ⟨cell_below hBo f0, cell_below hBo f1, cell_below hBo f2, cell_below hBo f3, cell_below hBo f4, cell_below hBo q1, cell_below hBo q2, cell_below hBo y3, cell_below hBo x3⟩
              replace hBo := below_undrew hBo
              have hx2 := hx.out
              have kin := hid fun w => (In_any _ z hx2 hlt2 w)
              rw [HIN.out] at kin
              clear hE' hF' hx2
              generalize ofRow nt E F' (P.rs.drop (q + 1)) y = x at *
              go_wp2_with fail
              refine hK.out _ _ hd ?_
              clear hK K'
              try simp only [Act.put, List.setIfInBounds_toArray, List.set_cons_zero, List.set_cons_succ]
              refine anyT_next (i := 20) (o := { dst := some 114, op := Op.call { callee := Callee.value (Operand.func 24), args := #[Operand.tmp 108, Operand.tmp 113], argTypes := #[30, 30] }, type := 4, pos := "law.go:82", after := #[{ on := 14, ground := Ground.data }, { on := 19, ground := Ground.data }, { on := 14, ground := Ground.chain }, { on := 2, ground := Ground.guard }], guard := some (2, true) }) (by kernel_rfl) rfl (by decide) inv (fun inv K' hK => ?_)
              go_simp
              refine (kin.out _).mono ?_
              rintro e w8 ⟨rfl, rfl⟩
              go_wp2_with fail
              refine hK.out _ _ hd ?_
              clear hK K'
              try simp only [Act.put, List.setIfInBounds_toArray, List.set_cons_zero, List.set_cons_succ]
              refine anyT_take (i := 21) (oi := { dst := some 115, op := Op.unOp UnOp.not 4 (Operand.tmp 114), type := 4, pos := "law.go:82", after := #[{ on := 20, ground := Ground.data }, { on := 2, ground := Ground.guard }], guard := some (2, true) }) (v := ?_) rfl (by kernel_rfl) (by kernel_rfl) (by kernel_rfl) (by decide) (by decide) (by kernel_rfl) (by kernel_rfl) (fun _ _ _ h => h) (Or.inl ⟨by rfl, ?_⟩) hd inv (fun inv => ?_)
              rotate_left
              · intro w hSw
                try dsimp only at hSw
                go_simp
                try with_reducible rfl
              simp only [Act.put, List.setIfInBounds_toArray, List.set_cons_zero, List.set_cons_succ]
              refine anyT_one (i := 22) (o := { dst := some 116, op := Op.pick (Operand.tmp 96) (Operand.tmp 115) (Operand.const (Value.bool false)), type := 4, pos := "law.go:82", after := #[{ on := 2, ground := Ground.data }, { on := 21, ground := Ground.data }], guard := none }) (by kernel_rfl) rfl (fun K' hK => ?_)
              go_simp
              refine hK.out _ _ (fun h => absurd h (by decide)) ?_
              clear hK K'
              try simp only [Act.put, List.setIfInBounds_toArray, List.set_cons_zero, List.set_cons_succ]
              refine anyT_done (by kernel_rfl) ?_ _
              have hBf := hid (hbq.trans (hBo.mono hbq.size))
              clear hd hBo
              go_wp2
              exact ⟨⟨q + 1, by omega, by rw [HTA.out] <;> rfl, by rw [HTB.out] <;> rfl, by go_num, hBf.out⟩, by simp [RowKit.intOf]; omega⟩
        · have i2 : ¬ ((q : Int) < (rl : Int)) := by omega
          rw [List.take_of_length_le (by have := HRL.out; omega)]
          have hEC := HEC.out
          have hVC := HVC.out
          have x1 := cell_bools (heap_keep hBB.out e1.out) (i := so) (by have := L1.out; omega)
          have x4 := cell_bools (heap_keep hBB.out e4.out) (i := so) (by have := L4.out; omega)
          have x2 := cell_sets (heap_keep hBB.out e2.out) (i := so) (by have := L2.out; omega)
          have hlt2 := getD_lt hFt.out so
          have hx := hid (ofRow_lt nt E hFt.out P.rs (show 0 < top by decide))
          have HIN := hid HFI.out
          have HIW := hid (HIA.out.mono (hBx.trans (hBB.out.mono hBx.size)))
          generalize P.rs.all (isK false E) = xa at *
          generalize P.rs.all (isK true LV) = xb at *
          generalize E.getD so false = ea at *
          generalize LV.getD so false = eb at *
          generalize F.getD so 0 = z at *
          cases xa <;> cases xb
          · clear hEC hVC
            go_wp2_with fail
            refine region_T 32 (fun w' => w'.cell? ⟨w.heap.size, 0, none⟩ = some (.slice ta nt tc) ∧ w'.cell? ⟨w.heap.size, 1, none⟩ = some ov ∧ w'.cell? ⟨w.heap.size, 2, none⟩ = some (.slice sa ns sc) ∧ w'.cell? ⟨w.heap.size, 3, none⟩ = some (.slice (some ⟨b, off, none⟩) np pc) ∧ w'.cell? ⟨w.heap.size, 4, none⟩ = some (.int .i64 (so0 : Int)) ∧ w'.cell? ⟨pb, 1, none⟩ = some (.int .i64 (so : Int)) ∧ w'.cell? ⟨pb, 2, none⟩ = some (.slice ra rl rc) ∧ w'.cell? ⟨b2, so, none⟩ = some (.int .u64 (z : Int))) (by kernel_rfl) ⟨f0, f1, f2, f3, f4, q1, q2, x2⟩ (fun inv hHeld => ?_)
            refine anyT_take (i := 0) (oi := { dst := some 117, op := Op.move (Operand.tmp 11), type := 4, pos := "law.go:86", after := #[], guard := none }) (v := ?_) rfl (by kernel_rfl) (by kernel_rfl) (by kernel_rfl) (by decide) (by decide) (by kernel_rfl) (by kernel_rfl) (fun _ _ _ h => h) (Or.inl ⟨by rfl, ?_⟩) hHeld inv (fun inv => ?_)
            rotate_left
            · intro w hSw
              try dsimp only at hSw
              go_simp
              try with_reducible rfl
            simp only [Act.put, List.setIfInBounds_toArray, List.set_cons_zero, List.set_cons_succ]
            refine anyT_take (i := 1) (oi := { dst := some 118, op := Op.move (Operand.tmp 117), type := 4, pos := "law.go:86", after := #[{ on := 0, ground := Ground.data }], guard := none }) (v := ?_) rfl (by kernel_rfl) (by kernel_rfl) (by kernel_rfl) (by decide) (by decide) (by kernel_rfl) (by kernel_rfl) (fun _ _ _ h => h) (Or.inl ⟨by rfl, ?_⟩) hHeld inv (fun inv => ?_)
            rotate_left
            · intro w hSw
              try dsimp only at hSw
              go_simp
              try with_reducible rfl
            simp only [Act.put, List.setIfInBounds_toArray, List.set_cons_zero, List.set_cons_succ]
            refine anyT_take (i := 2) (oi := { dst := some 119, op := Op.move (Operand.tmp 5), type := 33, pos := "law.go:86", after := #[{ on := 1, ground := Ground.guard }], guard := some (1, true) }) (v := undef) rfl (by kernel_rfl) (by kernel_rfl) (by kernel_rfl) (by decide) (by decide) (by kernel_rfl) (by kernel_rfl) (fun _ _ _ h => h) (Or.inr ⟨by rfl, rfl⟩) hHeld inv (fun inv => ?_)
            simp only [Act.put, List.setIfInBounds_toArray, List.set_cons_zero, List.set_cons_succ]
            refine anyT_take (i := 3) (oi := { dst := some 120, op := Op.fieldAddr 41 (Operand.tmp 10) 1, type := 0, pos := "law.go:86", after := #[{ on := 1, ground := Ground.guard }], guard := some (1, true) }) (v := undef) rfl (by kernel_rfl) (by kernel_rfl) (by kernel_rfl) (by decide) (by decide) (by kernel_rfl) (by kernel_rfl) (fun _ _ _ h => h) (Or.inr ⟨by rfl, rfl⟩) hHeld inv (fun inv => ?_)
            simp only [Act.put, List.setIfInBounds_toArray, List.set_cons_zero, List.set_cons_succ]
            refine anyT_take (i := 4) (oi := { dst := some 121, op := Op.load 3 (Operand.tmp 120), type := 3, pos := "law.go:86", after := #[{ on := 3, ground := Ground.data }, { on := 1, ground := Ground.guard }], guard := some (1, true) }) (v := undef) rfl (by kernel_rfl) (by kernel_rfl) (by kernel_rfl) (by decide) (by decide) (by kernel_rfl) (by kernel_rfl) (fun _ _ _ h => h) (Or.inr ⟨by rfl, rfl⟩) hHeld inv (fun inv => ?_)
            simp only [Act.put, List.setIfInBounds_toArray, List.set_cons_zero, List.set_cons_succ]
            refine anyT_take (i := 5) (oi := { dst := some 122, op := Op.indexAddr 33 (Operand.tmp 119) (Operand.tmp 121), type := 0, pos := "law.go:86", after := #[{ on := 2, ground := Ground.data }, { on := 4, ground := Ground.data }, { on := 1, ground := Ground.guard }], guard := some (1, true) }) (v := undef) rfl (by kernel_rfl) (by kernel_rfl) (by kernel_rfl) (by decide) (by decide) (by kernel_rfl) (by kernel_rfl) (fun _ _ _ h => h) (Or.inr ⟨by rfl, rfl⟩) hHeld inv (fun inv => ?_)
            simp only [Act.put, List.setIfInBounds_toArray, List.set_cons_zero, List.set_cons_succ]
            refine anyT_take (i := 6) (oi := { dst := some 123, op := Op.load 4 (Operand.tmp 122), type := 4, pos := "law.go:86", after := #[{ on := 5, ground := Ground.data }, { on := 1, ground := Ground.guard }], guard := some (1, true) }) (v := undef) rfl (by kernel_rfl) (by kernel_rfl) (by kernel_rfl) (by decide) (by decide) (by kernel_rfl) (by kernel_rfl) (fun _ _ _ h => h) (Or.inr ⟨by rfl, rfl⟩) hHeld inv (fun inv => ?_)
            simp only [Act.put, List.setIfInBounds_toArray, List.set_cons_zero, List.set_cons_succ]
            refine anyT_take (i := 7) (oi := { dst := some 124, op := Op.unOp UnOp.not 4 (Operand.tmp 123), type := 4, pos := "law.go:86", after := #[{ on := 6, ground := Ground.data }, { on := 1, ground := Ground.guard }], guard := some (1, true) }) (v := undef) rfl (by kernel_rfl) (by kernel_rfl) (by kernel_rfl) (by decide) (by decide) (by kernel_rfl) (by kernel_rfl) (fun _ _ _ h => h) (Or.inr ⟨by rfl, rfl⟩) hHeld inv (fun inv => ?_)
            simp only [Act.put, List.setIfInBounds_toArray, List.set_cons_zero, List.set_cons_succ]
            refine anyT_take (i := 8) (oi := { dst := some 125, op := Op.pick (Operand.tmp 118) (Operand.tmp 124) (Operand.const (Value.bool false)), type := 4, pos := "law.go:86", after := #[{ on := 1, ground := Ground.data }, { on := 7, ground := Ground.data }], guard := none }) (v := ?_) rfl (by kernel_rfl) (by kernel_rfl) (by kernel_rfl) (by decide) (by decide) (by kernel_rfl) (by kernel_rfl) (fun _ _ _ h => h) (Or.inl ⟨by rfl, ?_⟩) hHeld inv (fun inv => ?_)
            rotate_left
            · intro w hSw
              try dsimp only at hSw
              go_simp
              try with_reducible rfl
            simp only [Act.put, List.setIfInBounds_toArray, List.set_cons_zero, List.set_cons_succ]
            refine anyT_take (i := 9) (oi := { dst := some 126, op := Op.move (Operand.tmp 125), type := 4, pos := "law.go:86", after := #[{ on := 8, ground := Ground.data }, { on := 1, ground := Ground.chain }], guard := none }) (v := ?_) rfl (by kernel_rfl) (by kernel_rfl) (by kernel_rfl) (by decide) (by decide) (by kernel_rfl) (by kernel_rfl) (fun _ _ _ h => h) (Or.inl ⟨by rfl, ?_⟩) hHeld inv (fun inv => ?_)
            rotate_left
            · intro w hSw
              try dsimp only at hSw
              go_simp
              try with_reducible rfl
            simp only [Act.put, List.setIfInBounds_toArray, List.set_cons_zero, List.set_cons_succ]
            refine anyT_take (i := 10) (oi := { dst := some 127, op := Op.move (Operand.tmp 12), type := 4, pos := "law.go:86", after := #[{ on := 9, ground := Ground.guard }], guard := some (9, false) }) (v := ?_) rfl (by kernel_rfl) (by kernel_rfl) (by kernel_rfl) (by decide) (by decide) (by kernel_rfl) (by kernel_rfl) (fun _ _ _ h => h) (Or.inl ⟨by rfl, ?_⟩) hHeld inv (fun inv => ?_)
            rotate_left
            · intro w hSw
              try dsimp only at hSw
              go_simp
              try with_reducible rfl
            simp only [Act.put, List.setIfInBounds_toArray, List.set_cons_zero, List.set_cons_succ]
            refine anyT_take (i := 11) (oi := { dst := some 128, op := Op.move (Operand.tmp 127), type := 4, pos := "law.go:86", after := #[{ on := 10, ground := Ground.data }, { on := 9, ground := Ground.chain }, { on := 9, ground := Ground.guard }], guard := some (9, false) }) (v := ?_) rfl (by kernel_rfl) (by kernel_rfl) (by kernel_rfl) (by decide) (by decide) (by kernel_rfl) (by kernel_rfl) (fun _ _ _ h => h) (Or.inl ⟨by rfl, ?_⟩) hHeld inv (fun inv => ?_)
            rotate_left
            · intro w hSw
              try dsimp only at hSw
              go_simp
              try with_reducible rfl
            simp only [Act.put, List.setIfInBounds_toArray, List.set_cons_zero, List.set_cons_succ]
            refine anyT_take (i := 12) (oi := { dst := some 129, op := Op.move (Operand.tmp 8), type := 33, pos := "law.go:86", after := #[{ on := 11, ground := Ground.guard }], guard := some (11, true) }) (v := undef) rfl (by kernel_rfl) (by kernel_rfl) (by kernel_rfl) (by decide) (by decide) (by kernel_rfl) (by kernel_rfl) (fun _ _ _ h => h) (Or.inr ⟨by rfl, rfl⟩) hHeld inv (fun inv => ?_)
            simp only [Act.put, List.setIfInBounds_toArray, List.set_cons_zero, List.set_cons_succ]
            refine anyT_take (i := 13) (oi := { dst := some 130, op := Op.fieldAddr 41 (Operand.tmp 10) 1, type := 0, pos := "law.go:86", after := #[{ on := 11, ground := Ground.guard }], guard := some (11, true) }) (v := undef) rfl (by kernel_rfl) (by kernel_rfl) (by kernel_rfl) (by decide) (by decide) (by kernel_rfl) (by kernel_rfl) (fun _ _ _ h => h) (Or.inr ⟨by rfl, rfl⟩) hHeld inv (fun inv => ?_)
            simp only [Act.put, List.setIfInBounds_toArray, List.set_cons_zero, List.set_cons_succ]
            refine anyT_take (i := 14) (oi := { dst := some 131, op := Op.load 3 (Operand.tmp 130), type := 3, pos := "law.go:86", after := #[{ on := 13, ground := Ground.data }, { on := 11, ground := Ground.guard }], guard := some (11, true) }) (v := undef) rfl (by kernel_rfl) (by kernel_rfl) (by kernel_rfl) (by decide) (by decide) (by kernel_rfl) (by kernel_rfl) (fun _ _ _ h => h) (Or.inr ⟨by rfl, rfl⟩) hHeld inv (fun inv => ?_)
            simp only [Act.put, List.setIfInBounds_toArray, List.set_cons_zero, List.set_cons_succ]
            refine anyT_take (i := 15) (oi := { dst := some 132, op := Op.indexAddr 33 (Operand.tmp 129) (Operand.tmp 131), type := 0, pos := "law.go:86", after := #[{ on := 12, ground := Ground.data }, { on := 14, ground := Ground.data }, { on := 11, ground := Ground.guard }], guard := some (11, true) }) (v := undef) rfl (by kernel_rfl) (by kernel_rfl) (by kernel_rfl) (by decide) (by decide) (by kernel_rfl) (by kernel_rfl) (fun _ _ _ h => h) (Or.inr ⟨by rfl, rfl⟩) hHeld inv (fun inv => ?_)
            simp only [Act.put, List.setIfInBounds_toArray, List.set_cons_zero, List.set_cons_succ]
            refine anyT_take (i := 16) (oi := { dst := some 133, op := Op.load 4 (Operand.tmp 132), type := 4, pos := "law.go:86", after := #[{ on := 15, ground := Ground.data }, { on := 11, ground := Ground.guard }], guard := some (11, true) }) (v := undef) rfl (by kernel_rfl) (by kernel_rfl) (by kernel_rfl) (by decide) (by decide) (by kernel_rfl) (by kernel_rfl) (fun _ _ _ h => h) (Or.inr ⟨by rfl, rfl⟩) hHeld inv (fun inv => ?_)
            simp only [Act.put, List.setIfInBounds_toArray, List.set_cons_zero, List.set_cons_succ]
            refine anyT_take (i := 17) (oi := { dst := some 134, op := Op.unOp UnOp.not 4 (Operand.tmp 133), type := 4, pos := "law.go:86", after := #[{ on := 16, ground := Ground.data }, { on := 11, ground := Ground.guard }], guard := some (11, true) }) (v := undef) rfl (by kernel_rfl) (by kernel_rfl) (by kernel_rfl) (by decide) (by decide) (by kernel_rfl) (by kernel_rfl) (fun _ _ _ h => h) (Or.inr ⟨by rfl, rfl⟩) hHeld inv (fun inv => ?_)
            simp only [Act.put, List.setIfInBounds_toArray, List.set_cons_zero, List.set_cons_succ]
            refine anyT_take (i := 18) (oi := { dst := some 135, op := Op.pick (Operand.tmp 128) (Operand.tmp 134) (Operand.const (Value.bool false)), type := 4, pos := "law.go:86", after := #[{ on := 11, ground := Ground.data }, { on := 17, ground := Ground.data }, { on := 9, ground := Ground.guard }], guard := some (9, false) }) (v := ?_) rfl (by kernel_rfl) (by kernel_rfl) (by kernel_rfl) (by decide) (by decide) (by kernel_rfl) (by kernel_rfl) (fun _ _ _ h => h) (Or.inl ⟨by rfl, ?_⟩) hHeld inv (fun inv => ?_)
            rotate_left
            · intro w hSw
              try dsimp only at hSw
              go_simp
              try with_reducible rfl
            simp only [Act.put, List.setIfInBounds_toArray, List.set_cons_zero, List.set_cons_succ]
            refine anyT_take (i := 19) (oi := { dst := some 136, op := Op.pick (Operand.tmp 126) (Operand.const (Value.bool true)) (Operand.tmp 135), type := 4, pos := "law.go:86", after := #[{ on := 9, ground := Ground.data }, { on := 18, ground := Ground.data }], guard := none }) (v := ?_) rfl (by kernel_rfl) (by kernel_rfl) (by kernel_rfl) (by decide) (by decide) (by kernel_rfl) (by kernel_rfl) (fun _ _ _ h => h) (Or.inl ⟨by rfl, ?_⟩) hHeld inv (fun inv => ?_)
            rotate_left
            · intro w hSw
              try dsimp only at hSw
              go_simp
              try with_reducible rfl
            simp only [Act.put, List.setIfInBounds_toArray, List.set_cons_zero, List.set_cons_succ]
            refine anyT_take (i := 20) (oi := { dst := some 137, op := Op.move (Operand.tmp 136), type := 4, pos := "law.go:86", after := #[{ on := 19, ground := Ground.data }, { on := 11, ground := Ground.chain }], guard := none }) (v := ?_) rfl (by kernel_rfl) (by kernel_rfl) (by kernel_rfl) (by decide) (by decide) (by kernel_rfl) (by kernel_rfl) (fun _ _ _ h => h) (Or.inl ⟨by rfl, ?_⟩) hHeld inv (fun inv => ?_)
            rotate_left
            · intro w hSw
              try dsimp only at hSw
              go_simp
              try with_reducible rfl
            simp only [Act.put, List.setIfInBounds_toArray, List.set_cons_zero, List.set_cons_succ]
            refine anyT_take (i := 21) (oi := { dst := some 138, op := Op.load 27 (Operand.tmp 1), type := 27, pos := "law.go:86", after := #[{ on := 20, ground := Ground.guard }], guard := some (20, false) }) (v := ?_) rfl (by kernel_rfl) (by kernel_rfl) (by kernel_rfl) (by decide) (by decide) (by kernel_rfl) (by kernel_rfl) (fun _ _ _ h => h) (Or.inl ⟨by rfl, ?_⟩) hHeld inv (fun inv => ?_)
            rotate_left
            · intro w hSw
              try dsimp only at hSw
              go_simp
              try with_reducible rfl
            simp only [Act.put, List.setIfInBounds_toArray, List.set_cons_zero, List.set_cons_succ]
            refine anyT_take (i := 22) (oi := { dst := some 139, op := Op.fieldAddr 41 (Operand.tmp 10) 2, type := 0, pos := "law.go:86", after := #[{ on := 20, ground := Ground.guard }], guard := some (20, false) }) (v := ?_) rfl (by kernel_rfl) (by kernel_rfl) (by kernel_rfl) (by decide) (by decide) (by kernel_rfl) (by kernel_rfl) (fun _ _ _ h => h) (Or.inl ⟨by rfl, ?_⟩) hHeld inv (fun inv => ?_)
            rotate_left
            · intro w hSw
              try dsimp only at hSw
              go_simp
              try with_reducible rfl
            simp only [Act.put, List.setIfInBounds_toArray, List.set_cons_zero, List.set_cons_succ]
            refine anyT_take (i := 23) (oi := { dst := some 140, op := Op.load 28 (Operand.tmp 139), type := 28, pos := "law.go:86", after := #[{ on := 22, ground := Ground.data }, { on := 20, ground := Ground.guard }], guard := some (20, false) }) (v := ?_) rfl (by kernel_rfl) (by kernel_rfl) (by kernel_rfl) (by decide) (by decide) (by kernel_rfl) (by kernel_rfl) (fun _ _ _ h => h) (Or.inl ⟨by rfl, ?_⟩) hHeld inv (fun inv => ?_)
            rotate_left
            · intro w hSw
              try dsimp only at hSw
              go_simp
              try with_reducible rfl
            simp only [Act.put, List.setIfInBounds_toArray, List.set_cons_zero, List.set_cons_succ]
            refine anyT_take (i := 25) (oi := { dst := some 142, op := Op.move (Operand.tmp 6), type := 36, pos := "law.go:86", after := #[{ on := 20, ground := Ground.guard }], guard := some (20, false) }) (v := ?_) rfl (by kernel_rfl) (by kernel_rfl) (by kernel_rfl) (by decide) (by decide) (by kernel_rfl) (by kernel_rfl) (fun _ _ _ h => h) (Or.inl ⟨by rfl, ?_⟩) hHeld inv (fun inv => ?_)
            rotate_left
            · intro w hSw
              try dsimp only at hSw
              go_simp
              try with_reducible rfl
            simp only [Act.put, List.setIfInBounds_toArray, List.set_cons_zero, List.set_cons_succ]
            refine anyT_take (i := 26) (oi := { dst := some 143, op := Op.fieldAddr 41 (Operand.tmp 10) 1, type := 0, pos := "law.go:86", after := #[{ on := 20, ground := Ground.guard }], guard := some (20, false) }) (v := ?_) rfl (by kernel_rfl) (by kernel_rfl) (by kernel_rfl) (by decide) (by decide) (by kernel_rfl) (by kernel_rfl) (fun _ _ _ h => h) (Or.inl ⟨by rfl, ?_⟩) hHeld inv (fun inv => ?_)
            rotate_left
            · intro w hSw
              try dsimp only at hSw
              go_simp
              try with_reducible rfl
            simp only [Act.put, List.setIfInBounds_toArray, List.set_cons_zero, List.set_cons_succ]
            refine anyT_take (i := 27) (oi := { dst := some 144, op := Op.load 3 (Operand.tmp 143), type := 3, pos := "law.go:86", after := #[{ on := 26, ground := Ground.data }, { on := 20, ground := Ground.guard }], guard := some (20, false) }) (v := ?_) rfl (by kernel_rfl) (by kernel_rfl) (by kernel_rfl) (by decide) (by decide) (by kernel_rfl) (by kernel_rfl) (fun _ _ _ h => h) (Or.inl ⟨by rfl, ?_⟩) hHeld inv (fun inv => ?_)
            rotate_left
            · intro w hSw
              try dsimp only at hSw
              go_simp
              try with_reducible rfl
            simp only [Act.put, List.setIfInBounds_toArray, List.set_cons_zero, List.set_cons_succ]
            refine anyT_take (i := 28) (oi := { dst := some 145, op := Op.indexAddr 36 (Operand.tmp 142) (Operand.tmp 144), type := 0, pos := "law.go:86", after := #[{ on := 25, ground := Ground.data }, { on := 27, ground := Ground.data }, { on := 20, ground := Ground.guard }], guard := some (20, false) }) (v := ?_) rfl (by kernel_rfl) (by kernel_rfl) (by kernel_rfl) (by decide) (by decide) (by kernel_rfl) (by kernel_rfl) (fun _ _ _ h => h) (Or.inl ⟨by rfl, ?_⟩) hHeld inv (fun inv => ?_)
            rotate_left
            · intro w hSw
              try dsimp only at hSw
              go_simp
              try with_reducible rfl
            simp only [Act.put, List.setIfInBounds_toArray, List.set_cons_zero, List.set_cons_succ]
            refine anyT_take (i := 29) (oi := { dst := some 146, op := Op.load 30 (Operand.tmp 145), type := 30, pos := "law.go:86", after := #[{ on := 28, ground := Ground.data }, { on := 20, ground := Ground.guard }], guard := some (20, false) }) (v := ?_) rfl (by kernel_rfl) (by kernel_rfl) (by kernel_rfl) (by decide) (by decide) (by kernel_rfl) (by kernel_rfl) (fun _ _ _ h => h) (Or.inl ⟨by rfl, ?_⟩) hHeld inv (fun inv => ?_)
            rotate_left
            · intro w hSw
              try dsimp only at hSw
              go_simp
              try with_reducible rfl
            simp only [Act.put, List.setIfInBounds_toArray, List.set_cons_zero, List.set_cons_succ]
            refine anyT_next (i := 24) (o := { dst := some 141, op := Op.call { callee := Callee.value (Operand.func 21), args := #[Operand.tmp 138, Operand.tmp 140, Operand.const (Value.int IntKind.u64 0)], argTypes := #[27, 28, 30] }, type := 30, pos := "law.go:86", after := #[{ on := 21, ground := Ground.data }, { on := 23, ground := Ground.data }, { on := 20, ground := Ground.chain }, { on := 20, ground := Ground.guard }], guard := some (20, false) }) (by kernel_rfl) rfl (by decide) inv (fun inv K' hK => ?_)
            go_simp
            refine (kO.out (by simp) _ (hBx.trans (hBB.out.mono hBx.size)).drew _ P.rs 0 HIW.out (by decide)).mono ?_
            rintro e w7 ⟨E', F', rfl, hE', hF', hBo⟩
            obtain rfl := HE.out.same hE'
            obtain rfl : F' = F := hF'.sameN HF.out (evF_mono _ _ _ _)
            have hd : w7.cell? ⟨w.heap.size, 0, none⟩ = some (.slice ta nt tc) ∧ w7.cell? ⟨w.heap.size, 1, none⟩ = some ov ∧ w7.cell? ⟨w.heap.size, 2, none⟩ = some (.slice sa ns sc) ∧ w7.cell? ⟨w.heap.size, 3, none⟩ = some (.slice (some ⟨b, off, none⟩) np pc) ∧ w7.cell? ⟨w.heap.size, 4, none⟩ = some (.int .i64 (so0 : Int)) ∧ w7.cell? ⟨pb, 1, none⟩ = some (.int .i64 (so : Int)) ∧ w7.cell? ⟨pb, 2, none⟩ = some (.slice ra rl rc) ∧ w7.cell? ⟨b2, so, none⟩ = some (.int .u64 (z : Int)) := ⟨cell_below hBo f0, cell_below hBo f1, cell_below hBo f2, cell_below hBo f3, cell_below hBo f4, cell_below hBo q1, cell_below hBo q2, cell_below hBo x2⟩
            replace hBo := below_undrew hBo
            have hx2 := hx.out
            have kin := hid fun w => (In_any _ z hx2 hlt2 w)
            rw [HIN.out] at kin
            clear hE' hF' hx2
            generalize ofRow nt E F' P.rs 0 = x at *
            go_wp2_with fail
            refine hK.out _ _ hd ?_
            clear hK K'
            try simp only [Act.put, List.setIfInBounds_toArray, List.set_cons_zero, List.set_cons_succ]
            refine anyT_next (i := 30) (o := { dst := some 147, op := Op.call { callee := Callee.value (Operand.func 24), args := #[Operand.tmp 141, Operand.tmp 146], argTypes := #[30, 30] }, type := 4, pos := "law.go:86", after := #[{ on := 24, ground := Ground.data }, { on := 29, ground := Ground.data }, { on := 24, ground := Ground.chain }, { on := 20, ground := Ground.guard }], guard := some (20, false) }) (by kernel_rfl) rfl (by decide) inv (fun inv K' hK => ?_)
            go_simp
            refine (kin.out _).mono ?_
            rintro e w8 ⟨rfl, rfl⟩
            go_wp2_with fail
            refine hK.out _ _ hd ?_
            clear hK K'
            try simp only [Act.put, List.setIfInBounds_toArray, List.set_cons_zero, List.set_cons_succ]
            refine anyT_take (i := 31) (oi := { dst := some 148, op := Op.unOp UnOp.not 4 (Operand.tmp 147), type := 4, pos := "law.go:86", after := #[{ on := 30, ground := Ground.data }, { on := 20, ground := Ground.guard }], guard := some (20, false) }) (v := ?_) rfl (by kernel_rfl) (by kernel_rfl) (by kernel_rfl) (by decide) (by decide) (by kernel_rfl) (by kernel_rfl) (fun _ _ _ h => h) (Or.inl ⟨by rfl, ?_⟩) hd inv (fun inv => ?_)
            rotate_left
            · intro w hSw
              try dsimp only at hSw
              go_simp
              try with_reducible rfl
            simp only [Act.put, List.setIfInBounds_toArray, List.set_cons_zero, List.set_cons_succ]
            refine anyT_one (i := 32) (o := { dst := some 149, op := Op.pick (Operand.tmp 137) (Operand.const (Value.bool true)) (Operand.tmp 148), type := 4, pos := "law.go:86", after := #[{ on := 20, ground := Ground.data }, { on := 31, ground := Ground.data }], guard := none }) (by kernel_rfl) rfl (fun K' hK => ?_)
            go_simp
            refine hK.out _ _ (fun h => absurd h (by decide)) ?_
            clear hK K'
            try simp only [Act.put, List.setIfInBounds_toArray, List.set_cons_zero, List.set_cons_succ]
            refine anyT_done (by kernel_rfl) ?_ _
            have hBf := hid (HB5.out.trans ((hbq.trans (hBo.mono hbq.size)).mono HB5.out.size))
            clear hd hBo
            go_wp2
            exact ⟨⟨j + 1, by omega, by go_num, hBf.out⟩, by simp [RowKit.intOf]; omega⟩
          · obtain rfl : eb = true := hVC rfl
            clear hEC hVC
            go_wp2_with fail
            refine region_T 32 (fun w' => w'.cell? ⟨w.heap.size, 0, none⟩ = some (.slice ta nt tc) ∧ w'.cell? ⟨w.heap.size, 1, none⟩ = some ov ∧ w'.cell? ⟨w.heap.size, 2, none⟩ = some (.slice sa ns sc) ∧ w'.cell? ⟨w.heap.size, 3, none⟩ = some (.slice (some ⟨b, off, none⟩) np pc) ∧ w'.cell? ⟨w.heap.size, 4, none⟩ = some (.int .i64 (so0 : Int)) ∧ w'.cell? ⟨pb, 1, none⟩ = some (.int .i64 (so : Int)) ∧ w'.cell? ⟨pb, 2, none⟩ = some (.slice ra rl rc) ∧ w'.cell? ⟨b4, so, none⟩ = some (.bool true) ∧ w'.cell? ⟨b2, so, none⟩ = some (.int .u64 (z : Int))) (by kernel_rfl) ⟨f0, f1, f2, f3, f4, q1, q2, x4, x2⟩ (fun inv hHeld => ?_)
            refine anyT_take (i := 0) (oi := { dst := some 117, op := Op.move (Operand.tmp 11), type := 4, pos := "law.go:86", after := #[], guard := none }) (v := ?_) rfl (by kernel_rfl) (by kernel_rfl) (by kernel_rfl) (by decide) (by decide) (by kernel_rfl) (by kernel_rfl) (fun _ _ _ h => h) (Or.inl ⟨by rfl, ?_⟩) hHeld inv (fun inv => ?_)
            rotate_left
            · intro w hSw
              try dsimp only at hSw
              go_simp
              try with_reducible rfl
            simp only [Act.put, List.setIfInBounds_toArray, List.set_cons_zero, List.set_cons_succ]
            refine anyT_take (i := 1) (oi := { dst := some 118, op := Op.move (Operand.tmp 117), type := 4, pos := "law.go:86", after := #[{ on := 0, ground := Ground.data }], guard := none }) (v := ?_) rfl (by kernel_rfl) (by kernel_rfl) (by kernel_rfl) (by decide) (by decide) (by kernel_rfl) (by kernel_rfl) (fun _ _ _ h => h) (Or.inl ⟨by rfl, ?_⟩) hHeld inv (fun inv => ?_)
            rotate_left
            · intro w hSw
              try dsimp only at hSw
              go_simp
              try with_reducible rfl
            simp only [Act.put, List.setIfInBounds_toArray, List.set_cons_zero, List.set_cons_succ]
            refine anyT_take (i := 2) (oi := { dst := some 119, op := Op.move (Operand.tmp 5), type := 33, pos := "law.go:86", after := #[{ on := 1, ground := Ground.guard }], guard := some (1, true) }) (v := undef) rfl (by kernel_rfl) (by kernel_rfl) (by kernel_rfl) (by decide) (by decide) (by kernel_rfl) (by kernel_rfl) (fun _ _ _ h => h) (Or.inr ⟨by rfl, rfl⟩) hHeld inv (fun inv => ?_)
            simp only [Act.put, List.setIfInBounds_toArray, List.set_cons_zero, List.set_cons_succ]
            refine anyT_take (i := 3) (oi := { dst := some 120, op := Op.fieldAddr 41 (Operand.tmp 10) 1, type := 0, pos := "law.go:86", after := #[{ on := 1, ground := Ground.guard }], guard := some (1, true) }) (v := undef) rfl (by kernel_rfl) (by kernel_rfl) (by kernel_rfl) (by decide) (by decide) (by kernel_rfl) (by kernel_rfl) (fun _ _ _ h => h) (Or.inr ⟨by rfl, rfl⟩) hHeld inv (fun inv => ?_)
            simp only [Act.put, List.setIfInBounds_toArray, List.set_cons_zero, List.set_cons_succ]
            refine anyT_take (i := 4) (oi := { dst := some 121, op := Op.load 3 (Operand.tmp 120), type := 3, pos := "law.go:86", after := #[{ on := 3, ground := Ground.data }, { on := 1, ground := Ground.guard }], guard := some (1, true) }) (v := undef) rfl (by kernel_rfl) (by kernel_rfl) (by kernel_rfl) (by decide) (by decide) (by kernel_rfl) (by kernel_rfl) (fun _ _ _ h => h) (Or.inr ⟨by rfl, rfl⟩) hHeld inv (fun inv => ?_)
            simp only [Act.put, List.setIfInBounds_toArray, List.set_cons_zero, List.set_cons_succ]
            refine anyT_take (i := 5) (oi := { dst := some 122, op := Op.indexAddr 33 (Operand.tmp 119) (Operand.tmp 121), type := 0, pos := "law.go:86", after := #[{ on := 2, ground := Ground.data }, { on := 4, ground := Ground.data }, { on := 1, ground := Ground.guard }], guard := some (1, true) }) (v := undef) rfl (by kernel_rfl) (by kernel_rfl) (by kernel_rfl) (by decide) (by decide) (by kernel_rfl) (by kernel_rfl) (fun _ _ _ h => h) (Or.inr ⟨by rfl, rfl⟩) hHeld inv (fun inv => ?_)
            simp only [Act.put, List.setIfInBounds_toArray, List.set_cons_zero, List.set_cons_succ]
            refine anyT_take (i := 6) (oi := { dst := some 123, op := Op.load 4 (Operand.tmp 122), type := 4, pos := "law.go:86", after := #[{ on := 5, ground := Ground.data }, { on := 1, ground := Ground.guard }], guard := some (1, true) }) (v := undef) rfl (by kernel_rfl) (by kernel_rfl) (by kernel_rfl) (by decide) (by decide) (by kernel_rfl) (by kernel_rfl) (fun _ _ _ h => h) (Or.inr ⟨by rfl, rfl⟩) hHeld inv (fun inv => ?_)
            simp only [Act.put, List.setIfInBounds_toArray, List.set_cons_zero, List.set_cons_succ]
            refine anyT_take (i := 7) (oi := { dst := some 124, op := Op.unOp UnOp.not 4 (Operand.tmp 123), type := 4, pos := "law.go:86", after := #[{ on := 6, ground := Ground.data }, { on := 1, ground := Ground.guard }], guard := some (1, true) }) (v := undef) rfl (by kernel_rfl) (by kernel_rfl) (by kernel_rfl) (by decide) (by decide) (by kernel_rfl) (by kernel_rfl) (fun _ _ _ h => h) (Or.inr ⟨by rfl, rfl⟩) hHeld inv (fun inv => ?_)
            simp only [Act.put, List.setIfInBounds_toArray, List.set_cons_zero, List.set_cons_succ]
            refine anyT_take (i := 8) (oi := { dst := some 125, op := Op.pick (Operand.tmp 118) (Operand.tmp 124) (Operand.const (Value.bool false)), type := 4, pos := "law.go:86", after := #[{ on := 1, ground := Ground.data }, { on := 7, ground := Ground.data }], guard := none }) (v := ?_) rfl (by kernel_rfl) (by kernel_rfl) (by kernel_rfl) (by decide) (by decide) (by kernel_rfl) (by kernel_rfl) (fun _ _ _ h => h) (Or.inl ⟨by rfl, ?_⟩) hHeld inv (fun inv => ?_)
            rotate_left
            · intro w hSw
              try dsimp only at hSw
              go_simp
              try with_reducible rfl
            simp only [Act.put, List.setIfInBounds_toArray, List.set_cons_zero, List.set_cons_succ]
            refine anyT_take (i := 9) (oi := { dst := some 126, op := Op.move (Operand.tmp 125), type := 4, pos := "law.go:86", after := #[{ on := 8, ground := Ground.data }, { on := 1, ground := Ground.chain }], guard := none }) (v := ?_) rfl (by kernel_rfl) (by kernel_rfl) (by kernel_rfl) (by decide) (by decide) (by kernel_rfl) (by kernel_rfl) (fun _ _ _ h => h) (Or.inl ⟨by rfl, ?_⟩) hHeld inv (fun inv => ?_)
            rotate_left
            · intro w hSw
              try dsimp only at hSw
              go_simp
              try with_reducible rfl
            simp only [Act.put, List.setIfInBounds_toArray, List.set_cons_zero, List.set_cons_succ]
            refine anyT_take (i := 10) (oi := { dst := some 127, op := Op.move (Operand.tmp 12), type := 4, pos := "law.go:86", after := #[{ on := 9, ground := Ground.guard }], guard := some (9, false) }) (v := ?_) rfl (by kernel_rfl) (by kernel_rfl) (by kernel_rfl) (by decide) (by decide) (by kernel_rfl) (by kernel_rfl) (fun _ _ _ h => h) (Or.inl ⟨by rfl, ?_⟩) hHeld inv (fun inv => ?_)
            rotate_left
            · intro w hSw
              try dsimp only at hSw
              go_simp
              try with_reducible rfl
            simp only [Act.put, List.setIfInBounds_toArray, List.set_cons_zero, List.set_cons_succ]
            refine anyT_take (i := 11) (oi := { dst := some 128, op := Op.move (Operand.tmp 127), type := 4, pos := "law.go:86", after := #[{ on := 10, ground := Ground.data }, { on := 9, ground := Ground.chain }, { on := 9, ground := Ground.guard }], guard := some (9, false) }) (v := ?_) rfl (by kernel_rfl) (by kernel_rfl) (by kernel_rfl) (by decide) (by decide) (by kernel_rfl) (by kernel_rfl) (fun _ _ _ h => h) (Or.inl ⟨by rfl, ?_⟩) hHeld inv (fun inv => ?_)
            rotate_left
            · intro w hSw
              try dsimp only at hSw
              go_simp
              try with_reducible rfl
            simp only [Act.put, List.setIfInBounds_toArray, List.set_cons_zero, List.set_cons_succ]
            refine anyT_take (i := 12) (oi := { dst := some 129, op := Op.move (Operand.tmp 8), type := 33, pos := "law.go:86", after := #[{ on := 11, ground := Ground.guard }], guard := some (11, true) }) (v := ?_) rfl (by kernel_rfl) (by kernel_rfl) (by kernel_rfl) (by decide) (by decide) (by kernel_rfl) (by kernel_rfl) (fun _ _ _ h => h) (Or.inl ⟨by rfl, ?_⟩) hHeld inv (fun inv => ?_)
            rotate_left
            · intro w hSw
              try dsimp only at hSw
              go_simp
              try with_reducible rfl
            simp only [Act.put, List.setIfInBounds_toArray, List.set_cons_zero, List.set_cons_succ]
            refine anyT_take (i := 13) (oi := { dst := some 130, op := Op.fieldAddr 41 (Operand.tmp 10) 1, type := 0, pos := "law.go:86", after := #[{ on := 11, ground := Ground.guard }], guard := some (11, true) }) (v := ?_) rfl (by kernel_rfl) (by kernel_rfl) (by kernel_rfl) (by decide) (by decide) (by kernel_rfl) (by kernel_rfl) (fun _ _ _ h => h) (Or.inl ⟨by rfl, ?_⟩) hHeld inv (fun inv => ?_)
            rotate_left
            · intro w hSw
              try dsimp only at hSw
              go_simp
              try with_reducible rfl
            simp only [Act.put, List.setIfInBounds_toArray, List.set_cons_zero, List.set_cons_succ]
            refine anyT_take (i := 14) (oi := { dst := some 131, op := Op.load 3 (Operand.tmp 130), type := 3, pos := "law.go:86", after := #[{ on := 13, ground := Ground.data }, { on := 11, ground := Ground.guard }], guard := some (11, true) }) (v := ?_) rfl (by kernel_rfl) (by kernel_rfl) (by kernel_rfl) (by decide) (by decide) (by kernel_rfl) (by kernel_rfl) (fun _ _ _ h => h) (Or.inl ⟨by rfl, ?_⟩) hHeld inv (fun inv => ?_)
            rotate_left
            · intro w hSw
              try dsimp only at hSw
              go_simp
              try with_reducible rfl
            simp only [Act.put, List.setIfInBounds_toArray, List.set_cons_zero, List.set_cons_succ]
            refine anyT_take (i := 15) (oi := { dst := some 132, op := Op.indexAddr 33 (Operand.tmp 129) (Operand.tmp 131), type := 0, pos := "law.go:86", after := #[{ on := 12, ground := Ground.data }, { on := 14, ground := Ground.data }, { on := 11, ground := Ground.guard }], guard := some (11, true) }) (v := ?_) rfl (by kernel_rfl) (by kernel_rfl) (by kernel_rfl) (by decide) (by decide) (by kernel_rfl) (by kernel_rfl) (fun _ _ _ h => h) (Or.inl ⟨by rfl, ?_⟩) hHeld inv (fun inv => ?_)
            rotate_left
            · intro w hSw
              try dsimp only at hSw
              go_simp
              try with_reducible rfl
            simp only [Act.put, List.setIfInBounds_toArray, List.set_cons_zero, List.set_cons_succ]
            refine anyT_take (i := 16) (oi := { dst := some 133, op := Op.load 4 (Operand.tmp 132), type := 4, pos := "law.go:86", after := #[{ on := 15, ground := Ground.data }, { on := 11, ground := Ground.guard }], guard := some (11, true) }) (v := ?_) rfl (by kernel_rfl) (by kernel_rfl) (by kernel_rfl) (by decide) (by decide) (by kernel_rfl) (by kernel_rfl) (fun _ _ _ h => h) (Or.inl ⟨by rfl, ?_⟩) hHeld inv (fun inv => ?_)
            rotate_left
            · intro w hSw
              try dsimp only at hSw
              go_simp
              try with_reducible rfl
            simp only [Act.put, List.setIfInBounds_toArray, List.set_cons_zero, List.set_cons_succ]
            refine anyT_take (i := 17) (oi := { dst := some 134, op := Op.unOp UnOp.not 4 (Operand.tmp 133), type := 4, pos := "law.go:86", after := #[{ on := 16, ground := Ground.data }, { on := 11, ground := Ground.guard }], guard := some (11, true) }) (v := ?_) rfl (by kernel_rfl) (by kernel_rfl) (by kernel_rfl) (by decide) (by decide) (by kernel_rfl) (by kernel_rfl) (fun _ _ _ h => h) (Or.inl ⟨by rfl, ?_⟩) hHeld inv (fun inv => ?_)
            rotate_left
            · intro w hSw
              try dsimp only at hSw
              go_simp
              try with_reducible rfl
            simp only [Act.put, List.setIfInBounds_toArray, List.set_cons_zero, List.set_cons_succ]
            refine anyT_take (i := 18) (oi := { dst := some 135, op := Op.pick (Operand.tmp 128) (Operand.tmp 134) (Operand.const (Value.bool false)), type := 4, pos := "law.go:86", after := #[{ on := 11, ground := Ground.data }, { on := 17, ground := Ground.data }, { on := 9, ground := Ground.guard }], guard := some (9, false) }) (v := ?_) rfl (by kernel_rfl) (by kernel_rfl) (by kernel_rfl) (by decide) (by decide) (by kernel_rfl) (by kernel_rfl) (fun _ _ _ h => h) (Or.inl ⟨by rfl, ?_⟩) hHeld inv (fun inv => ?_)
            rotate_left
            · intro w hSw
              try dsimp only at hSw
              go_simp
              try with_reducible rfl
            simp only [Act.put, List.setIfInBounds_toArray, List.set_cons_zero, List.set_cons_succ]
            refine anyT_take (i := 19) (oi := { dst := some 136, op := Op.pick (Operand.tmp 126) (Operand.const (Value.bool true)) (Operand.tmp 135), type := 4, pos := "law.go:86", after := #[{ on := 9, ground := Ground.data }, { on := 18, ground := Ground.data }], guard := none }) (v := ?_) rfl (by kernel_rfl) (by kernel_rfl) (by kernel_rfl) (by decide) (by decide) (by kernel_rfl) (by kernel_rfl) (fun _ _ _ h => h) (Or.inl ⟨by rfl, ?_⟩) hHeld inv (fun inv => ?_)
            rotate_left
            · intro w hSw
              try dsimp only at hSw
              go_simp
              try with_reducible rfl
            simp only [Act.put, List.setIfInBounds_toArray, List.set_cons_zero, List.set_cons_succ]
            refine anyT_take (i := 20) (oi := { dst := some 137, op := Op.move (Operand.tmp 136), type := 4, pos := "law.go:86", after := #[{ on := 19, ground := Ground.data }, { on := 11, ground := Ground.chain }], guard := none }) (v := ?_) rfl (by kernel_rfl) (by kernel_rfl) (by kernel_rfl) (by decide) (by decide) (by kernel_rfl) (by kernel_rfl) (fun _ _ _ h => h) (Or.inl ⟨by rfl, ?_⟩) hHeld inv (fun inv => ?_)
            rotate_left
            · intro w hSw
              try dsimp only at hSw
              go_simp
              try with_reducible rfl
            simp only [Act.put, List.setIfInBounds_toArray, List.set_cons_zero, List.set_cons_succ]
            refine anyT_take (i := 21) (oi := { dst := some 138, op := Op.load 27 (Operand.tmp 1), type := 27, pos := "law.go:86", after := #[{ on := 20, ground := Ground.guard }], guard := some (20, false) }) (v := ?_) rfl (by kernel_rfl) (by kernel_rfl) (by kernel_rfl) (by decide) (by decide) (by kernel_rfl) (by kernel_rfl) (fun _ _ _ h => h) (Or.inl ⟨by rfl, ?_⟩) hHeld inv (fun inv => ?_)
            rotate_left
            · intro w hSw
              try dsimp only at hSw
              go_simp
              try with_reducible rfl
            simp only [Act.put, List.setIfInBounds_toArray, List.set_cons_zero, List.set_cons_succ]
            refine anyT_take (i := 22) (oi := { dst := some 139, op := Op.fieldAddr 41 (Operand.tmp 10) 2, type := 0, pos := "law.go:86", after := #[{ on := 20, ground := Ground.guard }], guard := some (20, false) }) (v := ?_) rfl (by kernel_rfl) (by kernel_rfl) (by kernel_rfl) (by decide) (by decide) (by kernel_rfl) (by kernel_rfl) (fun _ _ _ h => h) (Or.inl ⟨by rfl, ?_⟩) hHeld inv (fun inv => ?_)
            rotate_left
            · intro w hSw
              try dsimp only at hSw
              go_simp
              try with_reducible rfl
            simp only [Act.put, List.setIfInBounds_toArray, List.set_cons_zero, List.set_cons_succ]
            refine anyT_take (i := 23) (oi := { dst := some 140, op := Op.load 28 (Operand.tmp 139), type := 28, pos := "law.go:86", after := #[{ on := 22, ground := Ground.data }, { on := 20, ground := Ground.guard }], guard := some (20, false) }) (v := ?_) rfl (by kernel_rfl) (by kernel_rfl) (by kernel_rfl) (by decide) (by decide) (by kernel_rfl) (by kernel_rfl) (fun _ _ _ h => h) (Or.inl ⟨by rfl, ?_⟩) hHeld inv (fun inv => ?_)
            rotate_left
            · intro w hSw
              try dsimp only at hSw
              go_simp
              try with_reducible rfl
            simp only [Act.put, List.setIfInBounds_toArray, List.set_cons_zero, List.set_cons_succ]
            refine anyT_take (i := 25) (oi := { dst := some 142, op := Op.move (Operand.tmp 6), type := 36, pos := "law.go:86", after := #[{ on := 20, ground := Ground.guard }], guard := some (20, false) }) (v := ?_) rfl (by kernel_rfl) (by kernel_rfl) (by kernel_rfl) (by decide) (by decide) (by kernel_rfl) (by kernel_rfl) (fun _ _ _ h => h) (Or.inl ⟨by rfl, ?_⟩) hHeld inv (fun inv => ?_)
            rotate_left
            · intro w hSw
              try dsimp only at hSw
              go_simp
              try with_reducible rfl
            simp only [Act.put, List.setIfInBounds_toArray, List.set_cons_zero, List.set_cons_succ]
            refine anyT_take (i := 26) (oi := { dst := some 143, op := Op.fieldAddr 41 (Operand.tmp 10) 1, type := 0, pos := "law.go:86", after := #[{ on := 20, ground := Ground.guard }], guard := some (20, false) }) (v := ?_) rfl (by kernel_rfl) (by kernel_rfl) (by kernel_rfl) (by decide) (by decide) (by kernel_rfl) (by kernel_rfl) (fun _ _ _ h => h) (Or.inl ⟨by rfl, ?_⟩) hHeld inv (fun inv => ?_)
            rotate_left
            · intro w hSw
              try dsimp only at hSw
              go_simp
              try with_reducible rfl
            simp only [Act.put, List.setIfInBounds_toArray, List.set_cons_zero, List.set_cons_succ]
            refine anyT_take (i := 27) (oi := { dst := some 144, op := Op.load 3 (Operand.tmp 143), type := 3, pos := "law.go:86", after := #[{ on := 26, ground := Ground.data }, { on := 20, ground := Ground.guard }], guard := some (20, false) }) (v := ?_) rfl (by kernel_rfl) (by kernel_rfl) (by kernel_rfl) (by decide) (by decide) (by kernel_rfl) (by kernel_rfl) (fun _ _ _ h => h) (Or.inl ⟨by rfl, ?_⟩) hHeld inv (fun inv => ?_)
            rotate_left
            · intro w hSw
              try dsimp only at hSw
              go_simp
              try with_reducible rfl
            simp only [Act.put, List.setIfInBounds_toArray, List.set_cons_zero, List.set_cons_succ]
            refine anyT_take (i := 28) (oi := { dst := some 145, op := Op.indexAddr 36 (Operand.tmp 142) (Operand.tmp 144), type := 0, pos := "law.go:86", after := #[{ on := 25, ground := Ground.data }, { on := 27, ground := Ground.data }, { on := 20, ground := Ground.guard }], guard := some (20, false) }) (v := ?_) rfl (by kernel_rfl) (by kernel_rfl) (by kernel_rfl) (by decide) (by decide) (by kernel_rfl) (by kernel_rfl) (fun _ _ _ h => h) (Or.inl ⟨by rfl, ?_⟩) hHeld inv (fun inv => ?_)
            rotate_left
            · intro w hSw
              try dsimp only at hSw
              go_simp
              try with_reducible rfl
            simp only [Act.put, List.setIfInBounds_toArray, List.set_cons_zero, List.set_cons_succ]
            refine anyT_take (i := 29) (oi := { dst := some 146, op := Op.load 30 (Operand.tmp 145), type := 30, pos := "law.go:86", after := #[{ on := 28, ground := Ground.data }, { on := 20, ground := Ground.guard }], guard := some (20, false) }) (v := ?_) rfl (by kernel_rfl) (by kernel_rfl) (by kernel_rfl) (by decide) (by decide) (by kernel_rfl) (by kernel_rfl) (fun _ _ _ h => h) (Or.inl ⟨by rfl, ?_⟩) hHeld inv (fun inv => ?_)
            rotate_left
            · intro w hSw
              try dsimp only at hSw
              go_simp
              try with_reducible rfl
            simp only [Act.put, List.setIfInBounds_toArray, List.set_cons_zero, List.set_cons_succ]
            refine anyT_next (i := 24) (o := { dst := some 141, op := Op.call { callee := Callee.value (Operand.func 21), args := #[Operand.tmp 138, Operand.tmp 140, Operand.const (Value.int IntKind.u64 0)], argTypes := #[27, 28, 30] }, type := 30, pos := "law.go:86", after := #[{ on := 21, ground := Ground.data }, { on := 23, ground := Ground.data }, { on := 20, ground := Ground.chain }, { on := 20, ground := Ground.guard }], guard := some (20, false) }) (by kernel_rfl) rfl (by decide) inv (fun inv K' hK => ?_)
            go_simp
            refine (kO.out (by simp) _ (hBx.trans (hBB.out.mono hBx.size)).drew _ P.rs 0 HIW.out (by decide)).mono ?_
            rintro e w7 ⟨E', F', rfl, hE', hF', hBo⟩
            obtain rfl := HE.out.same hE'
            obtain rfl : F' = F := hF'.sameN HF.out (evF_mono _ _ _ _)
            have hd : w7.cell? ⟨w.heap.size, 0, none⟩ = some (.slice ta nt tc) ∧ w7.cell? ⟨w.heap.size, 1, none⟩ = some ov ∧ w7.cell? ⟨w.heap.size, 2, none⟩ = some (.slice sa ns sc) ∧ w7.cell? ⟨w.heap.size, 3, none⟩ = some (.slice (some ⟨b, off, none⟩) np pc) ∧ w7.cell? ⟨w.heap.size, 4, none⟩ = some (.int .i64 (so0 : Int)) ∧ w7.cell? ⟨pb, 1, none⟩ = some (.int .i64 (so : Int)) ∧ w7.cell? ⟨pb, 2, none⟩ = some (.slice ra rl rc) ∧ w7.cell? ⟨b4, so, none⟩ = some (.bool true) ∧ w7.cell? ⟨b2, so, none⟩ = some (.int .u64 (z : Int)) := ⟨cell_below hBo f0, cell_below hBo f1, cell_below hBo f2, cell_below hBo f3, cell_below hBo f4, cell_below hBo q1, cell_below hBo q2, cell_below hBo x4, cell_below hBo x2⟩
            replace hBo := below_undrew hBo
            have hx2 := hx.out
            have kin := hid fun w => (In_any _ z hx2 hlt2 w)
            rw [HIN.out] at kin
            clear hE' hF' hx2
            generalize ofRow nt E F' P.rs 0 = x at *
            go_wp2_with fail
            refine hK.out _ _ hd ?_
            clear hK K'
            try simp only [Act.put, List.setIfInBounds_toArray, List.set_cons_zero, List.set_cons_succ]
            refine anyT_next (i := 30) (o := { dst := some 147, op := Op.call { callee := Callee.value (Operand.func 24), args := #[Operand.tmp 141, Operand.tmp 146], argTypes := #[30, 30] }, type := 4, pos := "law.go:86", after := #[{ on := 24, ground := Ground.data }, { on := 29, ground := Ground.data }, { on := 24, ground := Ground.chain }, { on := 20, ground := Ground.guard }], guard := some (20, false) }) (by kernel_rfl) rfl (by decide) inv (fun inv K' hK => ?_)
            go_simp
            refine (kin.out _).mono ?_
            rintro e w8 ⟨rfl, rfl⟩
            go_wp2_with fail
            refine hK.out _ _ hd ?_
            clear hK K'
            try simp only [Act.put, List.setIfInBounds_toArray, List.set_cons_zero, List.set_cons_succ]
            refine anyT_take (i := 31) (oi := { dst := some 148, op := Op.unOp UnOp.not 4 (Operand.tmp 147), type := 4, pos := "law.go:86", after := #[{ on := 30, ground := Ground.data }, { on := 20, ground := Ground.guard }], guard := some (20, false) }) (v := ?_) rfl (by kernel_rfl) (by kernel_rfl) (by kernel_rfl) (by decide) (by decide) (by kernel_rfl) (by kernel_rfl) (fun _ _ _ h => h) (Or.inl ⟨by rfl, ?_⟩) hd inv (fun inv => ?_)
            rotate_left
            · intro w hSw
              try dsimp only at hSw
              go_simp
              try with_reducible rfl
            simp only [Act.put, List.setIfInBounds_toArray, List.set_cons_zero, List.set_cons_succ]
            refine anyT_one (i := 32) (o := { dst := some 149, op := Op.pick (Operand.tmp 137) (Operand.const (Value.bool true)) (Operand.tmp 148), type := 4, pos := "law.go:86", after := #[{ on := 20, ground := Ground.data }, { on := 31, ground := Ground.data }], guard := none }) (by kernel_rfl) rfl (fun K' hK => ?_)
            go_simp
            refine hK.out _ _ (fun h => absurd h (by decide)) ?_
            clear hK K'
            try simp only [Act.put, List.setIfInBounds_toArray, List.set_cons_zero, List.set_cons_succ]
            refine anyT_done (by kernel_rfl) ?_ _
            have hBf := hid (HB5.out.trans ((hbq.trans (hBo.mono hbq.size)).mono HB5.out.size))
            clear hd hBo
            go_wp2
            exact ⟨⟨j + 1, by omega, by go_num, hBf.out⟩, by simp [RowKit.intOf]; omega⟩
          · obtain rfl : ea = true := hEC rfl
            clear hEC hVC
            go_wp2_with fail
            refine region_T 32 (fun w' => w'.cell? ⟨w.heap.size, 0, none⟩ = some (.slice ta nt tc) ∧ w'.cell? ⟨w.heap.size, 1, none⟩ = some ov ∧ w'.cell? ⟨w.heap.size, 2, none⟩ = some (.slice sa ns sc) ∧ w'.cell? ⟨w.heap.size, 3, none⟩ = some (.slice (some ⟨b, off, none⟩) np pc) ∧ w'.cell? ⟨w.heap.size, 4, none⟩ = some (.int .i64 (so0 : Int)) ∧ w'.cell? ⟨pb, 1, none⟩ = some (.int .i64 (so : Int)) ∧ w'.cell? ⟨pb, 2, none⟩ = some (.slice ra rl rc) ∧ w'.cell? ⟨b1, so, none⟩ = some (.bool true) ∧ w'.cell? ⟨b2, so, none⟩ = some (.int .u64 (z : Int))) (by kernel_rfl) ⟨f0, f1, f2, f3, f4, q1, q2, x1, x2⟩ (fun inv hHeld => ?_)
            refine anyT_take (i := 0) (oi := { dst := some 117, op := Op.move (Operand.tmp 11), type := 4, pos := "law.go:86", after := #[], guard := none }) (v := ?_) rfl (by kernel_rfl) (by kernel_rfl) (by kernel_rfl) (by decide) (by decide) (by kernel_rfl) (by kernel_rfl) (fun _ _ _ h => h) (Or.inl ⟨by rfl, ?_⟩) hHeld inv (fun inv => ?_)
            rotate_left
            · intro w hSw
              try dsimp only at hSw
              go_simp
              try with_reducible rfl
            simp only [Act.put, List.setIfInBounds_toArray, List.set_cons_zero, List.set_cons_succ]
            refine anyT_take (i := 1) (oi := { dst := some 118, op := Op.move (Operand.tmp 117), type := 4, pos := "law.go:86", after := #[{ on := 0, ground := Ground.data }], guard := none }) (v := ?_) rfl (by kernel_rfl) (by kernel_rfl) (by kernel_rfl) (by decide) (by decide) (by kernel_rfl) (by kernel_rfl) (fun _ _ _ h => h) (Or.inl ⟨by rfl, ?_⟩) hHeld inv (fun inv => ?_)
            rotate_left
            · intro w hSw
              try dsimp only at hSw
              go_simp
              try with_reducible rfl
            simp only [Act.put, List.setIfInBounds_toArray, List.set_cons_zero, List.set_cons_succ]
            refine anyT_take (i := 2) (oi := { dst := some 119, op := Op.move (Operand.tmp 5), type := 33, pos := "law.go:86", after := #[{ on := 1, ground := Ground.guard }], guard := some (1, true) }) (v := ?_) rfl (by kernel_rfl) (by kernel_rfl) (by kernel_rfl) (by decide) (by decide) (by kernel_rfl) (by kernel_rfl) (fun _ _ _ h => h) (Or.inl ⟨by rfl, ?_⟩) hHeld inv (fun inv => ?_)
            rotate_left
            · intro w hSw
              try dsimp only at hSw
              go_simp
              try with_reducible rfl
            simp only [Act.put, List.setIfInBounds_toArray, List.set_cons_zero, List.set_cons_succ]
            refine anyT_take (i := 3) (oi := { dst := some 120, op := Op.fieldAddr 41 (Operand.tmp 10) 1, type := 0, pos := "law.go:86", after := #[{ on := 1, ground := Ground.guard }], guard := some (1, true) }) (v := ?_) rfl (by kernel_rfl) (by kernel_rfl) (by kernel_rfl) (by decide) (by decide) (by kernel_rfl) (by kernel_rfl) (fun _ _ _ h => h) (Or.inl ⟨by rfl, ?_⟩) hHeld inv (fun inv => ?_)
            rotate_left
            · intro w hSw
              try dsimp only at hSw
              go_simp
              try with_reducible rfl
            simp only [Act.put, List.setIfInBounds_toArray, List.set_cons_zero, List.set_cons_succ]
            refine anyT_take (i := 4) (oi := { dst := some 121, op := Op.load 3 (Operand.tmp 120), type := 3, pos := "law.go:86", after := #[{ on := 3, ground := Ground.data }, { on := 1, ground := Ground.guard }], guard := some (1, true) }) (v := ?_) rfl (by kernel_rfl) (by kernel_rfl) (by kernel_rfl) (by decide) (by decide) (by kernel_rfl) (by kernel_rfl) (fun _ _ _ h => h) (Or.inl ⟨by rfl, ?_⟩) hHeld inv (fun inv => ?_)
            rotate_left
            · intro w hSw
              try dsimp only at hSw
              go_simp
              try with_reducible rfl
            simp only [Act.put, List.setIfInBounds_toArray, List.set_cons_zero, List.set_cons_succ]
            refine anyT_take (i := 5) (oi := { dst := some 122, op := Op.indexAddr 33 (Operand.tmp 119) (Operand.tmp 121), type := 0, pos := "law.go:86", after := #[{ on := 2, ground := Ground.data }, { on := 4, ground := Ground.data }, { on := 1, ground := Ground.guard }], guard := some (1, true) }) (v := ?_) rfl (by kernel_rfl) (by kernel_rfl) (by kernel_rfl) (by decide) (by decide) (by kernel_rfl) (by kernel_rfl) (fun _ _ _ h => h) (Or.inl ⟨by rfl, ?_⟩) hHeld inv (fun inv => ?_)
            rotate_left
            · intro w hSw
              try dsimp only at hSw
              go_simp
              try with_reducible rfl
            simp only [Act.put, List.setIfInBounds_toArray, List.set_cons_zero, List.set_cons_succ]
            refine anyT_take (i := 6) (oi := { dst := some 123, op := Op.load 4 (Operand.tmp 122), type := 4, pos := "law.go:86", after := #[{ on := 5, ground := Ground.data }, { on := 1, ground := Ground.guard }], guard := some (1, true) }) (v := ?_) rfl (by kernel_rfl) (by kernel_rfl) (by kernel_rfl) (by decide) (by decide) (by kernel_rfl) (by kernel_rfl) (fun _ _ _ h => h) (Or.inl ⟨by rfl, ?_⟩) hHeld inv (fun inv => ?_)
            rotate_left
            · intro w hSw
              try dsimp only at hSw
              go_simp
              try with_reducible rfl
            simp only [Act.put, List.setIfInBounds_toArray, List.set_cons_zero, List.set_cons_succ]
            refine anyT_take (i := 7) (oi := { dst := some 124, op := Op.unOp UnOp.not 4 (Operand.tmp 123), type := 4, pos := "law.go:86", after := #[{ on := 6, ground := Ground.data }, { on := 1, ground := Ground.guard }], guard := some (1, true) }) (v := ?_) rfl (by kernel_rfl) (by kernel_rfl) (by kernel_rfl) (by decide) (by decide) (by kernel_rfl) (by kernel_rfl) (fun _ _ _ h => h) (Or.inl ⟨by rfl, ?_⟩) hHeld inv (fun inv => ?_)
            rotate_left
            · intro w hSw
              try dsimp only at hSw
              go_simp
              try with_reducible rfl
            simp only [Act.put, List.setIfInBounds_toArray, List.set_cons_zero, List.set_cons_succ]
            refine anyT_take (i := 8) (oi := { dst := some 125, op := Op.pick (Operand.tmp 118) (Operand.tmp 124) (Operand.const (Value.bool false)), type := 4, pos := "law.go:86", after := #[{ on := 1, ground := Ground.data }, { on := 7, ground := Ground.data }], guard := none }) (v := ?_) rfl (by kernel_rfl) (by kernel_rfl) (by kernel_rfl) (by decide) (by decide) (by kernel_rfl) (by kernel_rfl) (fun _ _ _ h => h) (Or.inl ⟨by rfl, ?_⟩) hHeld inv (fun inv => ?_)
            rotate_left
            · intro w hSw
              try dsimp only at hSw
              go_simp
              try with_reducible rfl
            simp only [Act.put, List.setIfInBounds_toArray, List.set_cons_zero, List.set_cons_succ]
            refine anyT_take (i := 9) (oi := { dst := some 126, op := Op.move (Operand.tmp 125), type := 4, pos := "law.go:86", after := #[{ on := 8, ground := Ground.data }, { on := 1, ground := Ground.chain }], guard := none }) (v := ?_) rfl (by kernel_rfl) (by kernel_rfl) (by kernel_rfl) (by decide) (by decide) (by kernel_rfl) (by kernel_rfl) (fun _ _ _ h => h) (Or.inl ⟨by rfl, ?_⟩) hHeld inv (fun inv => ?_)
            rotate_left
            · intro w hSw
              try dsimp only at hSw
              go_simp
              try with_reducible rfl
            simp only [Act.put, List.setIfInBounds_toArray, List.set_cons_zero, List.set_cons_succ]
            refine anyT_take (i := 10) (oi := { dst := some 127, op := Op.move (Operand.tmp 12), type := 4, pos := "law.go:86", after := #[{ on := 9, ground := Ground.guard }], guard := some (9, false) }) (v := ?_) rfl (by kernel_rfl) (by kernel_rfl) (by kernel_rfl) (by decide) (by decide) (by kernel_rfl) (by kernel_rfl) (fun _ _ _ h => h) (Or.inl ⟨by rfl, ?_⟩) hHeld inv (fun inv => ?_)
            rotate_left
            · intro w hSw
              try dsimp only at hSw
              go_simp
              try with_reducible rfl
            simp only [Act.put, List.setIfInBounds_toArray, List.set_cons_zero, List.set_cons_succ]
            refine anyT_take (i := 11) (oi := { dst := some 128, op := Op.move (Operand.tmp 127), type := 4, pos := "law.go:86", after := #[{ on := 10, ground := Ground.data }, { on := 9, ground := Ground.chain }, { on := 9, ground := Ground.guard }], guard := some (9, false) }) (v := ?_) rfl (by kernel_rfl) (by kernel_rfl) (by kernel_rfl) (by decide) (by decide) (by kernel_rfl) (by kernel_rfl) (fun _ _ _ h => h) (Or.inl ⟨by rfl, ?_⟩) hHeld inv (fun inv => ?_)
            rotate_left
            · intro w hSw
              try dsimp only at hSw
              go_simp
              try with_reducible rfl
            simp only [Act.put, List.setIfInBounds_toArray, List.set_cons_zero, List.set_cons_succ]
            refine anyT_take (i := 12) (oi := { dst := some 129, op := Op.move (Operand.tmp 8), type := 33, pos := "law.go:86", after := #[{ on := 11, ground := Ground.guard }], guard := some (11, true) }) (v := undef) rfl (by kernel_rfl) (by kernel_rfl) (by kernel_rfl) (by decide) (by decide) (by kernel_rfl) (by kernel_rfl) (fun _ _ _ h => h) (Or.inr ⟨by rfl, rfl⟩) hHeld inv (fun inv => ?_)
            simp only [Act.put, List.setIfInBounds_toArray, List.set_cons_zero, List.set_cons_succ]
            refine anyT_take (i := 13) (oi := { dst := some 130, op := Op.fieldAddr 41 (Operand.tmp 10) 1, type := 0, pos := "law.go:86", after := #[{ on := 11, ground := Ground.guard }], guard := some (11, true) }) (v := undef) rfl (by kernel_rfl) (by kernel_rfl) (by kernel_rfl) (by decide) (by decide) (by kernel_rfl) (by kernel_rfl) (fun _ _ _ h => h) (Or.inr ⟨by rfl, rfl⟩) hHeld inv (fun inv => ?_)
            simp only [Act.put, List.setIfInBounds_toArray, List.set_cons_zero, List.set_cons_succ]
            refine anyT_take (i := 14) (oi := { dst := some 131, op := Op.load 3 (Operand.tmp 130), type := 3, pos := "law.go:86", after := #[{ on := 13, ground := Ground.data }, { on := 11, ground := Ground.guard }], guard := some (11, true) }) (v := undef) rfl (by kernel_rfl) (by kernel_rfl) (by kernel_rfl) (by decide) (by decide) (by kernel_rfl) (by kernel_rfl) (fun _ _ _ h => h) (Or.inr ⟨by rfl, rfl⟩) hHeld inv (fun inv => ?_)
            simp only [Act.put, List.setIfInBounds_toArray, List.set_cons_zero, List.set_cons_succ]
            refine anyT_take (i := 15) (oi := { dst := some 132, op := Op.indexAddr 33 (Operand.tmp 129) (Operand.tmp 131), type := 0, pos := "law.go:86", after := #[{ on := 12, ground := Ground.data }, { on := 14, ground := Ground.data }, { on := 11, ground := Ground.guard }], guard := some (11, true) }) (v := undef) rfl (by kernel_rfl) (by kernel_rfl) (by kernel_rfl) (by decide) (by decide) (by kernel_rfl) (by kernel_rfl) (fun _ _ _ h => h) (Or.inr ⟨by rfl, rfl⟩) hHeld inv (fun inv => ?_)
            simp only [Act.put, List.setIfInBounds_toArray, List.set_cons_zero, List.set_cons_succ]
            refine anyT_take (i := 16) (oi := { dst := some 133, op := Op.load 4 (Operand.tmp 132), type := 4, pos := "law.go:86", after := #[{ on := 15, ground := Ground.data }, { on := 11, ground := Ground.guard }], guard := some (11, true) }) (v := undef) rfl (by kernel_rfl) (by kernel_rfl) (by kernel_rfl) (by decide) (by decide) (by kernel_rfl) (by kernel_rfl) (fun _ _ _ h => h) (Or.inr ⟨by rfl, rfl⟩) hHeld inv (fun inv => ?_)
            simp only [Act.put, List.setIfInBounds_toArray, List.set_cons_zero, List.set_cons_succ]
            refine anyT_take (i := 17) (oi := { dst := some 134, op := Op.unOp UnOp.not 4 (Operand.tmp 133), type := 4, pos := "law.go:86", after := #[{ on := 16, ground := Ground.data }, { on := 11, ground := Ground.guard }], guard := some (11, true) }) (v := undef) rfl (by kernel_rfl) (by kernel_rfl) (by kernel_rfl) (by decide) (by decide) (by kernel_rfl) (by kernel_rfl) (fun _ _ _ h => h) (Or.inr ⟨by rfl, rfl⟩) hHeld inv (fun inv => ?_)
            simp only [Act.put, List.setIfInBounds_toArray, List.set_cons_zero, List.set_cons_succ]
            refine anyT_take (i := 18) (oi := { dst := some 135, op := Op.pick (Operand.tmp 128) (Operand.tmp 134) (Operand.const (Value.bool false)), type := 4, pos := "law.go:86", after := #[{ on := 11, ground := Ground.data }, { on := 17, ground := Ground.data }, { on := 9, ground := Ground.guard }], guard := some (9, false) }) (v := ?_) rfl (by kernel_rfl) (by kernel_rfl) (by kernel_rfl) (by decide) (by decide) (by kernel_rfl) (by kernel_rfl) (fun _ _ _ h => h) (Or.inl ⟨by rfl, ?_⟩) hHeld inv (fun inv => ?_)
            rotate_left
            · intro w hSw
              try dsimp only at hSw
              go_simp
              try with_reducible rfl
            simp only [Act.put, List.setIfInBounds_toArray, List.set_cons_zero, List.set_cons_succ]
            refine anyT_take (i := 19) (oi := { dst := some 136, op := Op.pick (Operand.tmp 126) (Operand.const (Value.bool true)) (Operand.tmp 135), type := 4, pos := "law.go:86", after := #[{ on := 9, ground := Ground.data }, { on := 18, ground := Ground.data }], guard := none }) (v := ?_) rfl (by kernel_rfl) (by kernel_rfl) (by kernel_rfl) (by decide) (by decide) (by kernel_rfl) (by kernel_rfl) (fun _ _ _ h => h) (Or.inl ⟨by rfl, ?_⟩) hHeld inv (fun inv => ?_)
            rotate_left
            · intro w hSw
              try dsimp only at hSw
              go_simp
              try with_reducible rfl
            simp only [Act.put, List.setIfInBounds_toArray, List.set_cons_zero, List.set_cons_succ]
            refine anyT_take (i := 20) (oi := { dst := some 137, op := Op.move (Operand.tmp 136), type := 4, pos := "law.go:86", after := #[{ on := 19, ground := Ground.data }, { on := 11, ground := Ground.chain }], guard := none }) (v := ?_) rfl (by kernel_rfl) (by kernel_rfl) (by kernel_rfl) (by decide) (by decide) (by kernel_rfl) (by kernel_rfl) (fun _ _ _ h => h) (Or.inl ⟨by rfl, ?_⟩) hHeld inv (fun inv => ?_)
            rotate_left
            · intro w hSw
              try dsimp only at hSw
              go_simp
              try with_reducible rfl
            simp only [Act.put, List.setIfInBounds_toArray, List.set_cons_zero, List.set_cons_succ]
            refine anyT_take (i := 21) (oi := { dst := some 138, op := Op.load 27 (Operand.tmp 1), type := 27, pos := "law.go:86", after := #[{ on := 20, ground := Ground.guard }], guard := some (20, false) }) (v := ?_) rfl (by kernel_rfl) (by kernel_rfl) (by kernel_rfl) (by decide) (by decide) (by kernel_rfl) (by kernel_rfl) (fun _ _ _ h => h) (Or.inl ⟨by rfl, ?_⟩) hHeld inv (fun inv => ?_)
            rotate_left
            · intro w hSw
              try dsimp only at hSw
              go_simp
              try with_reducible rfl
            simp only [Act.put, List.setIfInBounds_toArray, List.set_cons_zero, List.set_cons_succ]
            refine anyT_take (i := 22) (oi := { dst := some 139, op := Op.fieldAddr 41 (Operand.tmp 10) 2, type := 0, pos := "law.go:86", after := #[{ on := 20, ground := Ground.guard }], guard := some (20, false) }) (v := ?_) rfl (by kernel_rfl) (by kernel_rfl) (by kernel_rfl) (by decide) (by decide) (by kernel_rfl) (by kernel_rfl) (fun _ _ _ h => h) (Or.inl ⟨by rfl, ?_⟩) hHeld inv (fun inv => ?_)
            rotate_left
            · intro w hSw
              try dsimp only at hSw
              go_simp
              try with_reducible rfl
            simp only [Act.put, List.setIfInBounds_toArray, List.set_cons_zero, List.set_cons_succ]
            refine anyT_take (i := 23) (oi := { dst := some 140, op := Op.load 28 (Operand.tmp 139), type := 28, pos := "law.go:86", after := #[{ on := 22, ground := Ground.data }, { on := 20, ground := Ground.guard }], guard := some (20, false) }) (v := ?_) rfl (by kernel_rfl) (by kernel_rfl) (by kernel_rfl) (by decide) (by decide) (by kernel_rfl) (by kernel_rfl) (fun _ _ _ h => h) (Or.inl ⟨by rfl, ?_⟩) hHeld inv (fun inv => ?_)
            rotate_left
            · intro w hSw
              try dsimp only at hSw
              go_simp
              try with_reducible rfl
            simp only [Act.put, List.setIfInBounds_toArray, List.set_cons_zero, List.set_cons_succ]
            refine anyT_take (i := 25) (oi := { dst := some 142, op := Op.move (Operand.tmp 6), type := 36, pos := "law.go:86", after := #[{ on := 20, ground := Ground.guard }], guard := some (20, false) }) (v := ?_) rfl (by kernel_rfl) (by kernel_rfl) (by kernel_rfl) (by decide) (by decide) (by kernel_rfl) (by kernel_rfl) (fun _ _ _ h => h) (Or.inl ⟨by rfl, ?_⟩) hHeld inv (fun inv => ?_)
            rotate_left
            · intro w hSw
              try dsimp only at hSw
              go_simp
              try with_reducible rfl
            simp only [Act.put, List.setIfInBounds_toArray, List.set_cons_zero, List.set_cons_succ]
            refine anyT_take (i := 26) (oi := { dst := some 143, op := Op.fieldAddr 41 (Operand.tmp 10) 1, type := 0, pos := "law.go:86", after := #[{ on := 20, ground := Ground.guard }], guard := some (20, false) }) (v := ?_) rfl (by kernel_rfl) (by kernel_rfl) (by kernel_rfl) (by decide) (by decide) (by kernel_rfl) (by kernel_rfl) (fun _ _ _ h => h) (Or.inl ⟨by rfl, ?_⟩) hHeld inv (fun inv => ?_)
            rotate_left
            · intro w hSw
              try dsimp only at hSw
              go_simp
              try with_reducible rfl
            simp only [Act.put, List.setIfInBounds_toArray, List.set_cons_zero, List.set_cons_succ]
            refine anyT_take (i := 27) (oi := { dst := some 144, op := Op.load 3 (Operand.tmp 143), type := 3, pos := "law.go:86", after := #[{ on := 26, ground := Ground.data }, { on := 20, ground := Ground.guard }], guard := some (20, false) }) (v := ?_) rfl (by kernel_rfl) (by kernel_rfl) (by kernel_rfl) (by decide) (by decide) (by kernel_rfl) (by kernel_rfl) (fun _ _ _ h => h) (Or.inl ⟨by rfl, ?_⟩) hHeld inv (fun inv => ?_)
            rotate_left
            · intro w hSw
              try dsimp only at hSw
              go_simp
              try with_reducible rfl
            simp only [Act.put, List.setIfInBounds_toArray, List.set_cons_zero, List.set_cons_succ]
            refine anyT_take (i := 28) (oi := { dst := some 145, op := Op.indexAddr 36 (Operand.tmp 142) (Operand.tmp 144), type := 0, pos := "law.go:86", after := #[{ on := 25, ground := Ground.data }, { on := 27, ground := Ground.data }, { on := 20, ground := Ground.guard }], guard := some (20, false) }) (v := ?_) rfl (by kernel_rfl) (by kernel_rfl) (by kernel_rfl) (by decide) (by decide) (by kernel_rfl) (by kernel_rfl) (fun _ _ _ h => h) (Or.inl ⟨by rfl, ?_⟩) hHeld inv (fun inv => ?_)
            rotate_left
            · intro w hSw
              try dsimp only at hSw
              go_simp
              try with_reducible rfl
            simp only [Act.put, List.setIfInBounds_toArray, List.set_cons_zero, List.set_cons_succ]
            refine anyT_take (i := 29) (oi := { dst := some 146, op := Op.load 30 (Operand.tmp 145), type := 30, pos := "law.go:86", after := #[{ on := 28, ground := Ground.data }, { on := 20, ground := Ground.guard }], guard := some (20, false) }) (v := ?_) rfl (by kernel_rfl) (by kernel_rfl) (by kernel_rfl) (by decide) (by decide) (by kernel_rfl) (by kernel_rfl) (fun _ _ _ h => h) (Or.inl ⟨by rfl, ?_⟩) hHeld inv (fun inv => ?_)
            rotate_left
            · intro w hSw
              try dsimp only at hSw
              go_simp
              try with_reducible rfl
            simp only [Act.put, List.setIfInBounds_toArray, List.set_cons_zero, List.set_cons_succ]
            refine anyT_next (i := 24) (o := { dst := some 141, op := Op.call { callee := Callee.value (Operand.func 21), args := #[Operand.tmp 138, Operand.tmp 140, Operand.const (Value.int IntKind.u64 0)], argTypes := #[27, 28, 30] }, type := 30, pos := "law.go:86", after := #[{ on := 21, ground := Ground.data }, { on := 23, ground := Ground.data }, { on := 20, ground := Ground.chain }, { on := 20, ground := Ground.guard }], guard := some (20, false) }) (by kernel_rfl) rfl (by decide) inv (fun inv K' hK => ?_)
            go_simp
            refine (kO.out (by simp) _ (hBx.trans (hBB.out.mono hBx.size)).drew _ P.rs 0 HIW.out (by decide)).mono ?_
            rintro e w7 ⟨E', F', rfl, hE', hF', hBo⟩
            obtain rfl := HE.out.same hE'
            obtain rfl : F' = F := hF'.sameN HF.out (evF_mono _ _ _ _)
            have hd : w7.cell? ⟨w.heap.size, 0, none⟩ = some (.slice ta nt tc) ∧ w7.cell? ⟨w.heap.size, 1, none⟩ = some ov ∧ w7.cell? ⟨w.heap.size, 2, none⟩ = some (.slice sa ns sc) ∧ w7.cell? ⟨w.heap.size, 3, none⟩ = some (.slice (some ⟨b, off, none⟩) np pc) ∧ w7.cell? ⟨w.heap.size, 4, none⟩ = some (.int .i64 (so0 : Int)) ∧ w7.cell? ⟨pb, 1, none⟩ = some (.int .i64 (so : Int)) ∧ w7.cell? ⟨pb, 2, none⟩ = some (.slice ra rl rc) ∧ w7.cell? ⟨b1, so, none⟩ = some (.bool true) ∧ w7.cell? ⟨b2, so, none⟩ = some (.int .u64 (z : Int)) := ⟨cell_below hBo f0, cell_below hBo f1, cell_below hBo f2, cell_below hBo f3, cell_below hBo f4, cell_below hBo q1, cell_below hBo q2, cell_below hBo x1, cell_below hBo x2⟩
            replace hBo := below_undrew hBo
            have hx2 := hx.out
            have kin := hid fun w => (In_any _ z hx2 hlt2 w)
            rw [HIN.out] at kin
            clear hE' hF' hx2
            generalize ofRow nt E F' P.rs 0 = x at *
            go_wp2_with fail
            refine hK.out _ _ hd ?_
            clear hK K'
            try simp only [Act.put, List.setIfInBounds_toArray, List.set_cons_zero, List.set_cons_succ]
            refine anyT_next (i := 30) (o := { dst := some 147, op := Op.call { callee := Callee.value (Operand.func 24), args := #[Operand.tmp 141, Operand.tmp 146], argTypes := #[30, 30] }, type := 4, pos := "law.go:86", after := #[{ on := 24, ground := Ground.data }, { on := 29, ground := Ground.data }, { on := 24, ground := Ground.chain }, { on := 20, ground := Ground.guard }], guard := some (20, false) }) (by kernel_rfl) rfl (by decide) inv (fun inv K' hK => ?_)
            go_simp
            refine (kin.out _).mono ?_
            rintro e w8 ⟨rfl, rfl⟩
            go_wp2_with fail
            refine hK.out _ _ hd ?_
            clear hK K'
            try simp only [Act.put, List.setIfInBounds_toArray, List.set_cons_zero, List.set_cons_succ]
            refine anyT_take (i := 31) (oi := { dst := some 148, op := Op.unOp UnOp.not 4 (Operand.tmp 147), type := 4, pos := "law.go:86", after := #[{ on := 30, ground := Ground.data }, { on := 20, ground := Ground.guard }], guard := some (20, false) }) (v := ?_) rfl (by kernel_rfl) (by kernel_rfl) (by kernel_rfl) (by decide) (by decide) (by kernel_rfl) (by kernel_rfl) (fun _ _ _ h => h) (Or.inl ⟨by rfl, ?_⟩) hd inv (fun inv => ?_)
            rotate_left
            · intro w hSw
              try dsimp only at hSw
              go_simp
              try with_reducible rfl
            simp only [Act.put, List.setIfInBounds_toArray, List.set_cons_zero, List.set_cons_succ]
            refine anyT_one (i := 32) (o := { dst := some 149, op := Op.pick (Operand.tmp 137) (Operand.const (Value.bool true)) (Operand.tmp 148), type := 4, pos := "law.go:86", after := #[{ on := 20, ground := Ground.data }, { on := 31, ground := Ground.data }], guard := none }) (by kernel_rfl) rfl (fun K' hK => ?_)
            go_simp
            refine hK.out _ _ (fun h => absurd h (by decide)) ?_
            clear hK K'
            try simp only [Act.put, List.setIfInBounds_toArray, List.set_cons_zero, List.set_cons_succ]
            refine anyT_done (by kernel_rfl) ?_ _
            have hBf := hid (HB5.out.trans ((hbq.trans (hBo.mono hbq.size)).mono HB5.out.size))
            clear hd hBo
            go_wp2
            exact ⟨⟨j + 1, by omega, by go_num, hBf.out⟩, by simp [RowKit.intOf]; omega⟩
          · obtain rfl : ea = true := hEC rfl
            obtain rfl : eb = true := hVC rfl
            clear hEC hVC
            go_wp2_with fail
            refine region_T 32 (fun w' => w'.cell? ⟨w.heap.size, 0, none⟩ = some (.slice ta nt tc) ∧ w'.cell? ⟨w.heap.size, 1, none⟩ = some ov ∧ w'.cell? ⟨w.heap.size, 2, none⟩ = some (.slice sa ns sc) ∧ w'.cell? ⟨w.heap.size, 3, none⟩ = some (.slice (some ⟨b, off, none⟩) np pc) ∧ w'.cell? ⟨w.heap.size, 4, none⟩ = some (.int .i64 (so0 : Int)) ∧ w'.cell? ⟨pb, 1, none⟩ = some (.int .i64 (so : Int)) ∧ w'.cell? ⟨pb, 2, none⟩ = some (.slice ra rl rc) ∧ w'.cell? ⟨b1, so, none⟩ = some (.bool true) ∧ w'.cell? ⟨b4, so, none⟩ = some (.bool true) ∧ w'.cell? ⟨b2, so, none⟩ = some (.int .u64 (z : Int))) (by kernel_rfl) ⟨f0, f1, f2, f3, f4, q1, q2, x1, x4, x2⟩ (fun inv hHeld => ?_)
            refine anyT_take (i := 0) (oi := { dst := some 117, op := Op.move (Operand.tmp 11), type := 4, pos := "law.go:86", after := #[], guard := none }) (v := ?_) rfl (by kernel_rfl) (by kernel_rfl) (by kernel_rfl) (by decide) (by decide) (by kernel_rfl) (by kernel_rfl) (fun _ _ _ h => h) (Or.inl ⟨by rfl, ?_⟩) hHeld inv (fun inv => ?_)
            rotate_left
            · intro w hSw
              try dsimp only at hSw
              go_simp
              try with_reducible rfl
            simp only [Act.put, List.setIfInBounds_toArray, List.set_cons_zero, List.set_cons_succ]
            refine anyT_take (i := 1) (oi := { dst := some 118, op := Op.move (Operand.tmp 117), type := 4, pos := "law.go:86", after := #[{ on := 0, ground := Ground.data }], guard := none }) (v := ?_) rfl (by kernel_rfl) (by kernel_rfl) (by kernel_rfl) (by decide) (by decide) (by kernel_rfl) (by kernel_rfl) (fun _ _ _ h => h) (Or.inl ⟨by rfl, ?_⟩) hHeld inv (fun inv => ?_)
            rotate_left
            · intro w hSw
              try dsimp only at hSw
              go_simp
              try with_reducible rfl
            simp only [Act.put, List.setIfInBounds_toArray, List.set_cons_zero, List.set_cons_succ]
            refine anyT_take (i := 2) (oi := { dst := some 119, op := Op.move (Operand.tmp 5), type := 33, pos := "law.go:86", after := #[{ on := 1, ground := Ground.guard }], guard := some (1, true) }) (v := ?_) rfl (by kernel_rfl) (by kernel_rfl) (by kernel_rfl) (by decide) (by decide) (by kernel_rfl) (by kernel_rfl) (fun _ _ _ h => h) (Or.inl ⟨by rfl, ?_⟩) hHeld inv (fun inv => ?_)
            rotate_left
            · intro w hSw
              try dsimp only at hSw
              go_simp
              try with_reducible rfl
            simp only [Act.put, List.setIfInBounds_toArray, List.set_cons_zero, List.set_cons_succ]
            refine anyT_take (i := 3) (oi := { dst := some 120, op := Op.fieldAddr 41 (Operand.tmp 10) 1, type := 0, pos := "law.go:86", after := #[{ on := 1, ground := Ground.guard }], guard := some (1, true) }) (v := ?_) rfl (by kernel_rfl) (by kernel_rfl) (by kernel_rfl) (by decide) (by decide) (by kernel_rfl) (by kernel_rfl) (fun _ _ _ h => h) (Or.inl ⟨by rfl, ?_⟩) hHeld inv (fun inv => ?_)
            rotate_left
            · intro w hSw
              try dsimp only at hSw
              go_simp
              try with_reducible rfl
            simp only [Act.put, List.setIfInBounds_toArray, List.set_cons_zero, List.set_cons_succ]
            refine anyT_take (i := 4) (oi := { dst := some 121, op := Op.load 3 (Operand.tmp 120), type := 3, pos := "law.go:86", after := #[{ on := 3, ground := Ground.data }, { on := 1, ground := Ground.guard }], guard := some (1, true) }) (v := ?_) rfl (by kernel_rfl) (by kernel_rfl) (by kernel_rfl) (by decide) (by decide) (by kernel_rfl) (by kernel_rfl) (fun _ _ _ h => h) (Or.inl ⟨by rfl, ?_⟩) hHeld inv (fun inv => ?_)
            rotate_left
            · intro w hSw
              try dsimp only at hSw
              go_simp
              try with_reducible rfl
            simp only [Act.put, List.setIfInBounds_toArray, List.set_cons_zero, List.set_cons_succ]
            refine anyT_take (i := 5) (oi := { dst := some 122, op := Op.indexAddr 33 (Operand.tmp 119) (Operand.tmp 121), type := 0, pos := "law.go:86", after := #[{ on := 2, ground := Ground.data }, { on := 4, ground := Ground.data }, { on := 1, ground := Ground.guard }], guard := some (1, true) }) (v := ?_) rfl (by kernel_rfl) (by kernel_rfl) (by kernel_rfl) (by decide) (by decide) (by kernel_rfl) (by kernel_rfl) (fun _ _ _ h => h) (Or.inl ⟨by rfl, ?_⟩) hHeld inv (fun inv => ?_)
            rotate_left
            · intro w hSw
              try dsimp only at hSw
              go_simp
              try with_reducible rfl
            simp only [Act.put, List.setIfInBounds_toArray, List.set_cons_zero, List.set_cons_succ]
            refine anyT_take (i := 6) (oi := { dst := some 123, op := Op.load 4 (Operand.tmp 122), type := 4, pos := "law.go:86", after := #[{ on := 5, ground := Ground.data }, { on := 1, ground := Ground.guard }], guard := some (1, true) }) (v := ?_) rfl (by kernel_rfl) (by kernel_rfl) (by kernel_rfl) (by decide) (by decide) (by kernel_rfl) (by kernel_rfl) (fun _ _ _ h => h) (Or.inl ⟨by rfl, ?_⟩) hHeld inv (fun inv => ?_)
            rotate_left
            · intro w hSw
              try dsimp only at hSw
              go_simp
              try with_reducible rfl
            simp only [Act.put, List.setIfInBounds_toArray, List.set_cons_zero, List.set_cons_succ]
            refine anyT_take (i := 7) (oi := { dst := some 124, op := Op.unOp UnOp.not 4 (Operand.tmp 123), type := 4, pos := "law.go:86", after := #[{ on := 6, ground := Ground.data }, { on := 1, ground := Ground.guard }], guard := some (1, true) }) (v := ?_) rfl (by kernel_rfl) (by kernel_rfl) (by kernel_rfl) (by decide) (by decide) (by kernel_rfl) (by kernel_rfl) (fun _ _ _ h => h) (Or.inl ⟨by rfl, ?_⟩) hHeld inv (fun inv => ?_)
            rotate_left
            · intro w hSw
              try dsimp only at hSw
              go_simp
              try with_reducible rfl
            simp only [Act.put, List.setIfInBounds_toArray, List.set_cons_zero, List.set_cons_succ]
            refine anyT_take (i := 8) (oi := { dst := some 125, op := Op.pick (Operand.tmp 118) (Operand.tmp 124) (Operand.const (Value.bool false)), type := 4, pos := "law.go:86", after := #[{ on := 1, ground := Ground.data }, { on := 7, ground := Ground.data }], guard := none }) (v := ?_) rfl (by kernel_rfl) (by kernel_rfl) (by kernel_rfl) (by decide) (by decide) (by kernel_rfl) (by kernel_rfl) (fun _ _ _ h => h) (Or.inl ⟨by rfl, ?_⟩) hHeld inv (fun inv => ?_)
            rotate_left
            · intro w hSw
              try dsimp only at hSw
              go_simp
              try with_reducible rfl
            simp only [Act.put, List.setIfInBounds_toArray, List.set_cons_zero, List.set_cons_succ]
            refine anyT_take (i := 9) (oi := { dst := some 126, op := Op.move (Operand.tmp 125), type := 4, pos := "law.go:86", after := #[{ on := 8, ground := Ground.data }, { on := 1, ground := Ground.chain }], guard := none }) (v := ?_) rfl (by kernel_rfl) (by kernel_rfl) (by kernel_rfl) (by decide) (by decide) (by kernel_rfl) (by kernel_rfl) (fun _ _ _ h => h) (Or.inl ⟨by rfl, ?_⟩) hHeld inv (fun inv => ?_)
            rotate_left
            · intro w hSw
              try dsimp only at hSw
              go_simp
              try with_reducible rfl
            simp only [Act.put, List.setIfInBounds_toArray, List.set_cons_zero, List.set_cons_succ]
            refine anyT_take (i := 10) (oi := { dst := some 127, op := Op.move (Operand.tmp 12), type := 4, pos := "law.go:86", after := #[{ on := 9, ground := Ground.guard }], guard := some (9, false) }) (v := ?_) rfl (by kernel_rfl) (by kernel_rfl) (by kernel_rfl) (by decide) (by decide) (by kernel_rfl) (by kernel_rfl) (fun _ _ _ h => h) (Or.inl ⟨by rfl, ?_⟩) hHeld inv (fun inv => ?_)
            rotate_left
            · intro w hSw
              try dsimp only at hSw
              go_simp
              try with_reducible rfl
            simp only [Act.put, List.setIfInBounds_toArray, List.set_cons_zero, List.set_cons_succ]
            refine anyT_take (i := 11) (oi := { dst := some 128, op := Op.move (Operand.tmp 127), type := 4, pos := "law.go:86", after := #[{ on := 10, ground := Ground.data }, { on := 9, ground := Ground.chain }, { on := 9, ground := Ground.guard }], guard := some (9, false) }) (v := ?_) rfl (by kernel_rfl) (by kernel_rfl) (by kernel_rfl) (by decide) (by decide) (by kernel_rfl) (by kernel_rfl) (fun _ _ _ h => h) (Or.inl ⟨by rfl, ?_⟩) hHeld inv (fun inv => ?_)
            rotate_left
            · intro w hSw
              try dsimp only at hSw
              go_simp
              try with_reducible rfl
            simp only [Act.put, List.setIfInBounds_toArray, List.set_cons_zero, List.set_cons_succ]
            refine anyT_take (i := 12) (oi := { dst := some 129, op := Op.move (Operand.tmp 8), type := 33, pos := "law.go:86", after := #[{ on := 11, ground := Ground.guard }], guard := some (11, true) }) (v := ?_) rfl (by kernel_rfl) (by kernel_rfl) (by kernel_rfl) (by decide) (by decide) (by kernel_rfl) (by kernel_rfl) (fun _ _ _ h => h) (Or.inl ⟨by rfl, ?_⟩) hHeld inv (fun inv => ?_)
            rotate_left
            · intro w hSw
              try dsimp only at hSw
              go_simp
              try with_reducible rfl
            simp only [Act.put, List.setIfInBounds_toArray, List.set_cons_zero, List.set_cons_succ]
            refine anyT_take (i := 13) (oi := { dst := some 130, op := Op.fieldAddr 41 (Operand.tmp 10) 1, type := 0, pos := "law.go:86", after := #[{ on := 11, ground := Ground.guard }], guard := some (11, true) }) (v := ?_) rfl (by kernel_rfl) (by kernel_rfl) (by kernel_rfl) (by decide) (by decide) (by kernel_rfl) (by kernel_rfl) (fun _ _ _ h => h) (Or.inl ⟨by rfl, ?_⟩) hHeld inv (fun inv => ?_)
            rotate_left
            · intro w hSw
              try dsimp only at hSw
              go_simp
              try with_reducible rfl
            simp only [Act.put, List.setIfInBounds_toArray, List.set_cons_zero, List.set_cons_succ]
            refine anyT_take (i := 14) (oi := { dst := some 131, op := Op.load 3 (Operand.tmp 130), type := 3, pos := "law.go:86", after := #[{ on := 13, ground := Ground.data }, { on := 11, ground := Ground.guard }], guard := some (11, true) }) (v := ?_) rfl (by kernel_rfl) (by kernel_rfl) (by kernel_rfl) (by decide) (by decide) (by kernel_rfl) (by kernel_rfl) (fun _ _ _ h => h) (Or.inl ⟨by rfl, ?_⟩) hHeld inv (fun inv => ?_)
            rotate_left
            · intro w hSw
              try dsimp only at hSw
              go_simp
              try with_reducible rfl
            simp only [Act.put, List.setIfInBounds_toArray, List.set_cons_zero, List.set_cons_succ]
            refine anyT_take (i := 15) (oi := { dst := some 132, op := Op.indexAddr 33 (Operand.tmp 129) (Operand.tmp 131), type := 0, pos := "law.go:86", after := #[{ on := 12, ground := Ground.data }, { on := 14, ground := Ground.data }, { on := 11, ground := Ground.guard }], guard := some (11, true) }) (v := ?_) rfl (by kernel_rfl) (by kernel_rfl) (by kernel_rfl) (by decide) (by decide) (by kernel_rfl) (by kernel_rfl) (fun _ _ _ h => h) (Or.inl ⟨by rfl, ?_⟩) hHeld inv (fun inv => ?_)
            rotate_left
            · intro w hSw
              try dsimp only at hSw
              go_simp
              try with_reducible rfl
            simp only [Act.put, List.setIfInBounds_toArray, List.set_cons_zero, List.set_cons_succ]
            refine anyT_take (i := 16) (oi := { dst := some 133, op := Op.load 4 (Operand.tmp 132), type := 4, pos := "law.go:86", after := #[{ on := 15, ground := Ground.data }, { on := 11, ground := Ground.guard }], guard := some (11, true) }) (v := ?_) rfl (by kernel_rfl) (by kernel_rfl) (by kernel_rfl) (by decide) (by decide) (by kernel_rfl) (by kernel_rfl) (fun _ _ _ h => h) (Or.inl ⟨by rfl, ?_⟩) hHeld inv (fun inv => ?_)
            rotate_left
            · intro w hSw
              try dsimp only at hSw
              go_simp
              try with_reducible rfl
            simp only [Act.put, List.setIfInBounds_toArray, List.set_cons_zero, List.set_cons_succ]
            refine anyT_take (i := 17) (oi := { dst := some 134, op := Op.unOp UnOp.not 4 (Operand.tmp 133), type := 4, pos := "law.go:86", after := #[{ on := 16, ground := Ground.data }, { on := 11, ground := Ground.guard }], guard := some (11, true) }) (v := ?_) rfl (by kernel_rfl) (by kernel_rfl) (by kernel_rfl) (by decide) (by decide) (by kernel_rfl) (by kernel_rfl) (fun _ _ _ h => h) (Or.inl ⟨by rfl, ?_⟩) hHeld inv (fun inv => ?_)
            rotate_left
            · intro w hSw
              try dsimp only at hSw
              go_simp
              try with_reducible rfl
            simp only [Act.put, List.setIfInBounds_toArray, List.set_cons_zero, List.set_cons_succ]
            refine anyT_take (i := 18) (oi := { dst := some 135, op := Op.pick (Operand.tmp 128) (Operand.tmp 134) (Operand.const (Value.bool false)), type := 4, pos := "law.go:86", after := #[{ on := 11, ground := Ground.data }, { on := 17, ground := Ground.data }, { on := 9, ground := Ground.guard }], guard := some (9, false) }) (v := ?_) rfl (by kernel_rfl) (by kernel_rfl) (by kernel_rfl) (by decide) (by decide) (by kernel_rfl) (by kernel_rfl) (fun _ _ _ h => h) (Or.inl ⟨by rfl, ?_⟩) hHeld inv (fun inv => ?_)
            rotate_left
            · intro w hSw
              try dsimp only at hSw
              go_simp
              try with_reducible rfl
            simp only [Act.put, List.setIfInBounds_toArray, List.set_cons_zero, List.set_cons_succ]
            refine anyT_take (i := 19) (oi := { dst := some 136, op := Op.pick (Operand.tmp 126) (Operand.const (Value.bool true)) (Operand.tmp 135), type := 4, pos := "law.go:86", after := #[{ on := 9, ground := Ground.data }, { on := 18, ground := Ground.data }], guard := none }) (v := ?_) rfl (by kernel_rfl) (by kernel_rfl) (by kernel_rfl) (by decide) (by decide) (by kernel_rfl) (by kernel_rfl) (fun _ _ _ h => h) (Or.inl ⟨by rfl, ?_⟩) hHeld inv (fun inv => ?_)
            rotate_left
            · intro w hSw
              try dsimp only at hSw
              go_simp
              try with_reducible rfl
            simp only [Act.put, List.setIfInBounds_toArray, List.set_cons_zero, List.set_cons_succ]
            refine anyT_take (i := 20) (oi := { dst := some 137, op := Op.move (Operand.tmp 136), type := 4, pos := "law.go:86", after := #[{ on := 19, ground := Ground.data }, { on := 11, ground := Ground.chain }], guard := none }) (v := ?_) rfl (by kernel_rfl) (by kernel_rfl) (by kernel_rfl) (by decide) (by decide) (by kernel_rfl) (by kernel_rfl) (fun _ _ _ h => h) (Or.inl ⟨by rfl, ?_⟩) hHeld inv (fun inv => ?_)
            rotate_left
            · intro w hSw
              try dsimp only at hSw
              go_simp
              try with_reducible rfl
            simp only [Act.put, List.setIfInBounds_toArray, List.set_cons_zero, List.set_cons_succ]
            refine anyT_take (i := 21) (oi := { dst := some 138, op := Op.load 27 (Operand.tmp 1), type := 27, pos := "law.go:86", after := #[{ on := 20, ground := Ground.guard }], guard := some (20, false) }) (v := ?_) rfl (by kernel_rfl) (by kernel_rfl) (by kernel_rfl) (by decide) (by decide) (by kernel_rfl) (by kernel_rfl) (fun _ _ _ h => h) (Or.inl ⟨by rfl, ?_⟩) hHeld inv (fun inv => ?_)
            rotate_left
            · intro w hSw
              try dsimp only at hSw
              go_simp
              try with_reducible rfl
            simp only [Act.put, List.setIfInBounds_toArray, List.set_cons_zero, List.set_cons_succ]
            refine anyT_take (i := 22) (oi := { dst := some 139, op := Op.fieldAddr 41 (Operand.tmp 10) 2, type := 0, pos := "law.go:86", after := #[{ on := 20, ground := Ground.guard }], guard := some (20, false) }) (v := ?_) rfl (by kernel_rfl) (by kernel_rfl) (by kernel_rfl) (by decide) (by decide) (by kernel_rfl) (by kernel_rfl) (fun _ _ _ h => h) (Or.inl ⟨by rfl, ?_⟩) hHeld inv (fun inv => ?_)
            rotate_left
            · intro w hSw
              try dsimp only at hSw
              go_simp
              try with_reducible rfl
            simp only [Act.put, List.setIfInBounds_toArray, List.set_cons_zero, List.set_cons_succ]
            refine anyT_take (i := 23) (oi := { dst := some 140, op := Op.load 28 (Operand.tmp 139), type := 28, pos := "law.go:86", after := #[{ on := 22, ground := Ground.data }, { on := 20, ground := Ground.guard }], guard := some (20, false) }) (v := ?_) rfl (by kernel_rfl) (by kernel_rfl) (by kernel_rfl) (by decide) (by decide) (by kernel_rfl) (by kernel_rfl) (fun _ _ _ h => h) (Or.inl ⟨by rfl, ?_⟩) hHeld inv (fun inv => ?_)
            rotate_left
            · intro w hSw
              try dsimp only at hSw
              go_simp
              try with_reducible rfl
            simp only [Act.put, List.setIfInBounds_toArray, List.set_cons_zero, List.set_cons_succ]
            refine anyT_take (i := 25) (oi := { dst := some 142, op := Op.move (Operand.tmp 6), type := 36, pos := "law.go:86", after := #[{ on := 20, ground := Ground.guard }], guard := some (20, false) }) (v := ?_) rfl (by kernel_rfl) (by kernel_rfl) (by kernel_rfl) (by decide) (by decide) (by kernel_rfl) (by kernel_rfl) (fun _ _ _ h => h) (Or.inl ⟨by rfl, ?_⟩) hHeld inv (fun inv => ?_)
            rotate_left
            · intro w hSw
              try dsimp only at hSw
              go_simp
              try with_reducible rfl
            simp only [Act.put, List.setIfInBounds_toArray, List.set_cons_zero, List.set_cons_succ]
            refine anyT_take (i := 26) (oi := { dst := some 143, op := Op.fieldAddr 41 (Operand.tmp 10) 1, type := 0, pos := "law.go:86", after := #[{ on := 20, ground := Ground.guard }], guard := some (20, false) }) (v := ?_) rfl (by kernel_rfl) (by kernel_rfl) (by kernel_rfl) (by decide) (by decide) (by kernel_rfl) (by kernel_rfl) (fun _ _ _ h => h) (Or.inl ⟨by rfl, ?_⟩) hHeld inv (fun inv => ?_)
            rotate_left
            · intro w hSw
              try dsimp only at hSw
              go_simp
              try with_reducible rfl
            simp only [Act.put, List.setIfInBounds_toArray, List.set_cons_zero, List.set_cons_succ]
            refine anyT_take (i := 27) (oi := { dst := some 144, op := Op.load 3 (Operand.tmp 143), type := 3, pos := "law.go:86", after := #[{ on := 26, ground := Ground.data }, { on := 20, ground := Ground.guard }], guard := some (20, false) }) (v := ?_) rfl (by kernel_rfl) (by kernel_rfl) (by kernel_rfl) (by decide) (by decide) (by kernel_rfl) (by kernel_rfl) (fun _ _ _ h => h) (Or.inl ⟨by rfl, ?_⟩) hHeld inv (fun inv => ?_)
            rotate_left
            · intro w hSw
              try dsimp only at hSw
              go_simp
              try with_reducible rfl
            simp only [Act.put, List.setIfInBounds_toArray, List.set_cons_zero, List.set_cons_succ]
            refine anyT_take (i := 28) (oi := { dst := some 145, op := Op.indexAddr 36 (Operand.tmp 142) (Operand.tmp 144), type := 0, pos := "law.go:86", after := #[{ on := 25, ground := Ground.data }, { on := 27, ground := Ground.data }, { on := 20, ground := Ground.guard }], guard := some (20, false) }) (v := ?_) rfl (by kernel_rfl) (by kernel_rfl) (by kernel_rfl) (by decide) (by decide) (by kernel_rfl) (by kernel_rfl) (fun _ _ _ h => h) (Or.inl ⟨by rfl, ?_⟩) hHeld inv (fun inv => ?_)
            rotate_left
            · intro w hSw
              try dsimp only at hSw
              go_simp
              try with_reducible rfl
            simp only [Act.put, List.setIfInBounds_toArray, List.set_cons_zero, List.set_cons_succ]
            refine anyT_take (i := 29) (oi := { dst := some 146, op := Op.load 30 (Operand.tmp 145), type := 30, pos := "law.go:86", after := #[{ on := 28, ground := Ground.data }, { on := 20, ground := Ground.guard }], guard := some (20, false) }) (v := ?_) rfl (by kernel_rfl) (by kernel_rfl) (by kernel_rfl) (by decide) (by decide) (by kernel_rfl) (by kernel_rfl) (fun _ _ _ h => h) (Or.inl ⟨by rfl, ?_⟩) hHeld inv (fun inv => ?_)
            rotate_left
            · intro w hSw
              try dsimp only at hSw
              go_simp
              try with_reducible rfl
            simp only [Act.put, List.setIfInBounds_toArray, List.set_cons_zero, List.set_cons_succ]
            refine anyT_next (i := 24) (o := { dst := some 141, op := Op.call { callee := Callee.value (Operand.func 21), args := #[Operand.tmp 138, Operand.tmp 140, Operand.const (Value.int IntKind.u64 0)], argTypes := #[27, 28, 30] }, type := 30, pos := "law.go:86", after := #[{ on := 21, ground := Ground.data }, { on := 23, ground := Ground.data }, { on := 20, ground := Ground.chain }, { on := 20, ground := Ground.guard }], guard := some (20, false) }) (by kernel_rfl) rfl (by decide) inv (fun inv K' hK => ?_)
            go_simp
            refine (kO.out (by simp) _ (hBx.trans (hBB.out.mono hBx.size)).drew _ P.rs 0 HIW.out (by decide)).mono ?_
            rintro e w7 ⟨E', F', rfl, hE', hF', hBo⟩
            obtain rfl := HE.out.same hE'
            obtain rfl : F' = F := hF'.sameN HF.out (evF_mono _ _ _ _)
            have hd : w7.cell? ⟨w.heap.size, 0, none⟩ = some (.slice ta nt tc) ∧ w7.cell? ⟨w.heap.size, 1, none⟩ = some ov ∧ w7.cell? ⟨w.heap.size, 2, none⟩ = some (.slice sa ns sc) ∧ w7.cell? ⟨w.heap.size, 3, none⟩ = some (.slice (some ⟨b, off, none⟩) np pc) ∧ w7.cell? ⟨w.heap.size, 4, none⟩ = some (.int .i64 (so0 : Int)) ∧ w7.cell? ⟨pb, 1, none⟩ = some (.int .i64 (so : Int)) ∧ w7.cell? ⟨pb, 2, none⟩ = some (.slice ra rl rc) ∧ w7.cell? ⟨b1, so, none⟩ = some (.bool true) ∧ w7.cell? ⟨b4, so, none⟩ = some (.bool true) ∧ w7.cell? ⟨b2, so, none⟩ = some (.int .u64 (z : Int)) := ⟨cell_below hBo f0, cell_below hBo f1, cell_below hBo f2, cell_below hBo f3, cell_below hBo f4, cell_below hBo q1, cell_below hBo q2, cell_below hBo x1, cell_below hBo x4, cell_below hBo x2⟩
            replace hBo := below_undrew hBo
            have hx2 := hx.out
            have kin := hid fun w => (In_any _ z hx2 hlt2 w)
            rw [HIN.out] at kin
            clear hE' hF' hx2
            generalize ofRow nt E F' P.rs 0 = x at *
            go_wp2_with fail
            refine hK.out _ _ hd ?_
            clear hK K'
            try simp only [Act.put, List.setIfInBounds_toArray, List.set_cons_zero, List.set_cons_succ]
            refine anyT_next (i := 30) (o := { dst := some 147, op := Op.call { callee := Callee.value (Operand.func 24), args := #[Operand.tmp 141, Operand.tmp 146], argTypes := #[30, 30] }, type := 4, pos := "law.go:86", after := #[{ on := 24, ground := Ground.data }, { on := 29, ground := Ground.data }, { on := 24, ground := Ground.chain }, { on := 20, ground := Ground.guard }], guard := some (20, false) }) (by kernel_rfl) rfl (by decide) inv (fun inv K' hK => ?_)
            go_simp
            refine (kin.out _).mono ?_
            rintro e w8 ⟨rfl, rfl⟩
            go_wp2_with fail
            refine hK.out _ _ hd ?_
            clear hK K'
            try simp only [Act.put, List.setIfInBounds_toArray, List.set_cons_zero, List.set_cons_succ]
            refine anyT_take (i := 31) (oi := { dst := some 148, op := Op.unOp UnOp.not 4 (Operand.tmp 147), type := 4, pos := "law.go:86", after := #[{ on := 30, ground := Ground.data }, { on := 20, ground := Ground.guard }], guard := some (20, false) }) (v := ?_) rfl (by kernel_rfl) (by kernel_rfl) (by kernel_rfl) (by decide) (by decide) (by kernel_rfl) (by kernel_rfl) (fun _ _ _ h => h) (Or.inl ⟨by rfl, ?_⟩) hd inv (fun inv => ?_)
            rotate_left
            · intro w hSw
              try dsimp only at hSw
              go_simp
              try with_reducible rfl
            simp only [Act.put, List.setIfInBounds_toArray, List.set_cons_zero, List.set_cons_succ]
            refine anyT_one (i := 32) (o := { dst := some 149, op := Op.pick (Operand.tmp 137) (Operand.const (Value.bool true)) (Operand.tmp 148), type := 4, pos := "law.go:86", after := #[{ on := 20, ground := Ground.data }, { on := 31, ground := Ground.data }], guard := none }) (by kernel_rfl) rfl (fun K' hK => ?_)
            go_simp
            refine hK.out _ _ (fun h => absurd h (by decide)) ?_
            clear hK K'
            try simp only [Act.put, List.setIfInBounds_toArray, List.set_cons_zero, List.set_cons_succ]
            refine anyT_done (by kernel_rfl) ?_ _
            have hBf := hid (HB5.out.trans ((hbq.trans (hBo.mono hbq.size)).mono HB5.out.size))
            clear hd hBo
            go_wp2
            exact ⟨⟨j + 1, by omega, by go_num, hBf.out⟩, by simp [RowKit.intOf]; omega⟩
    · obtain rfl : j = np := by omega
      have x3 := cell_sets (heap_keep hbw e3.out) (i := so0) (by have := L3.out; omega)
      have hlt3 := getD_lt hLt.out so0
      have hh := HSTART.out
      generalize L.getD so0 0 = y at *
      have kh : Hid (∀ w, Calls Try.prog 25 #[.int .u64 (y : Int), .int .i64 63] w fun e w' => e = .returned (.bool true) ∧ w = w') := fun w => (Has_any y 63 hlt3 w).mono fun e w' ⟨h1, h2⟩ => ⟨by rw [h1, hh], h2⟩
      have i0 : (0 : Int) ≤ (so0 : Int) := by omega
      have i1 : (so0 : Int) < (ns : Int) := by omega
      clear hh hlt3
      go_wp2_with (go_at_call 25; refine (kh.out _).mono ?_; rintro e w' ⟨rfl, rfl⟩)
      go_ret
      exact ⟨rfl, hb.trans (hB.mono hsz)⟩

end Go.Proofs.Ytmfobiimihaiiaa
