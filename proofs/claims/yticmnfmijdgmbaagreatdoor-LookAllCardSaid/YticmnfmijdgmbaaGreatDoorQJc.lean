/- The document's own answers: which sorts may be empty, and live. -/
import Derived.Test.YticmnfmijdgmbaaGreatDoorGb
import Derived.Laws.NewBlocks
import Derived.Test.YticmnfmijdgmbaaGreatDoorSl
import Derived.Test.YticmnfmijdgmbaaGreatDoorQKq
import Derived.Test.YticmnfmijdgmbaaGreatDoorQMf
import Derived.OwnWalk
import Derived.RangeFuncBox
import Derived.Laws.AppendOwnNone
import Derived.Test.YticmnfmijdgmbaaGreatDoorQGh
import Derived.Test.YticmnfmijdgmbaaGreatDoorQHw
import Derived.Maps.AppendAt
namespace Go.Proofs.YticmnfmijdgmbaaGreatDoor.S13
open Go Go.RowKit Go.Lib Go.Joins
theorem roundB_snoc {k : Bool} {ps : List PD} {L : List Bool} {j : Nat} (h : j < ps.length) : roundU (usB k (ps.take (j + 1))) L = stepB k (roundU (usB k (ps.take j)) L) (ps.getD j default) := by
 unfold roundU usB
 rw [List.take_add_one, List.map_append, List.foldl_append, List.getD_eq_getElem?_getD, List.getElem?_eq_getElem h]
 rfl
set_option maxRecDepth 100000 in
set_option maxHeartbeats 4000000 in
theorem REmpty_any {G : GD} {gv tv ov sv pv : Value} {tf : Nat → Nat → Value} {rv : Nat → Value} {w : World} (h : GrAt w gv G tv ov sv pv tf rv) (hV : validB G = true) :
  Calls Tryz.prog 124 #[gv] w fun e W' => ∃ lb L, e = .returned (.slice (some ⟨lb, 0, none⟩) G.sorts.length G.sorts.length) ∧ Least false G.prods G.sorts.length L ∧ W'.heap[lb]? = some (.cells (L.map Value.bool).toArray 4) ∧ w.heap.size ≤ lb ∧ Below w.heap.size w W' := by
 obtain ⟨W1, B, hW1, hB, c0, c1, c2, c3, c4, hG, hb, hsz⟩ := gr_box h
 subst hB
 have kv := RValid_any hG
 rw [hV] at kv
 have HV := hid hV
 have HR := hid hG.rights
 have hgv := h.eq
 have hs := hG.sorts
 have hp := hG.prods
 subst hgv
 obtain ⟨sa, sc, rfl, hsn, _⟩ := hs
 obtain ⟨pa, pc, rfl, hpn, hp⟩ := hp
 have HP := hid hp
 clear hp h hG
 obtain ⟨n60, s60, p120⟩ := valid_few hV
 have hsort : ∀ p ∈ G.prods, p.sort.toNat < G.sorts.length := fun p hp => by
  obtain ⟨h1, h2, _⟩ := valid_rows hV p hp
  omega
 have HLE := hid (least_rounds (k := false) hsort)
 have hz1 : w.heap.size < W1.heap.size := by rw [hW1]; simp
 clear hV hsort
 generalize hns : G.sorts.length = ns at *
 generalize hnp : G.prods.length = np at *
 have HNP := hid hnp
 have HNS := hid hns
 clear hnp hns
 go_enter Tryz.func124, Tryz.ntmps124
 go_wp2_with fail
 rw [← hW1]
 clear hW1
 refine kv.mono ?_
 rintro e w1 ⟨rfl, hB1⟩
 have d2 := cell_below hB1 c2
 have d3 := cell_below hB1 c3
 have km := made_bools ns (by omega)
 have i0 : (0 : Int) ≤ (ns : Int) := by omega
 obtain ⟨w2, hw2⟩ : ∃ w2, w2 = w1.alloc (.cells (Array.replicate ns (.bool false)) 4) := ⟨_, rfl⟩
 have hl0 : w2.heap[w1.heap.size]? = some (.cells ((List.replicate ns false).map Value.bool).toArray 4) := by
  rw [hw2, show ((List.replicate ns false).map Value.bool).toArray = Array.replicate ns (.bool false) by simp]; exact new_block w1 _
 have hB2 : Below w1.heap.size w1 w2 := by rw [hw2]; exact below_al (Below.refl _ _) _
 have hz2 := hB1.size
 have hBA := hB1.trans (hB2.mono hz2)
 have e2 := cell_below hB2 d2
 have e3 := cell_below hB2 d3
 go_upto_region 5 with fail
 rw [← hw2]
 clear hw2 km d2 d3
 generalize hlb : w1.heap.size = lb at *
 have hlb1 : W1.heap.size ≤ lb := by omega
 clear hlb
 have hBL := hid hBA
 go_wp2_with fail
 go_loopw [5] (fun i wr => ∃ r : Nat, r ≤ ns + 1 ∧ i = .int .i64 (r : Int) ∧ wr.heap[lb]? = some (.cells ((roundsU (usB false G.prods) r (List.replicate ns false)).map Value.bool).toArray 4) ∧ Far (fun k => k = lb) w2 wr) (fun i _ => ns + 1 - (RowKit.intOf i).toNat)
 case atStart => exact ⟨0, by omega, rfl, hl0, Far.refl _ _⟩
 case round =>
  clear e2 e3
  obtain ⟨r, hr, rfl, hl1, hF1⟩ := hrel
  have hBr : Below W1.heap.size W1 wr := hBL.out.trans (hF1.toBelow hBL.out.size (by rintro k rfl; exact hlb1))
  have d2 := cell_below hBr c2
  have d3 := cell_below hBr c3
  by_cases hrn : r ≤ ns
  ·have r1 : (r : Int) ≤ (ns : Int) := by omega
   have HF1 := hid hF1
   generalize hLr : roundsU (usB false G.prods) r (List.replicate ns false) = L0 at *
   have HLR := hid hLr
   clear hLr
   go_wp2_with fail
   go_loopw [6] (fun i wr => ∃ j : Nat, j ≤ np ∧ i = .int .i64 (j : Int) ∧ wr.heap[lb]? = some (.cells ((roundU (usB false (G.prods.take j)) L0).map Value.bool).toArray 4) ∧ Far (fun k => k = lb) w2 wr) (fun i _ => np - (RowKit.intOf i).toNat)
   case atStart => exact ⟨0, by omega, rfl, hl1, HF1.out⟩
   case round =>
    clear d2 d3 hl1
    obtain ⟨j, hj, rfl, hl1, hF2⟩ := hrel
    have hBj : Below W1.heap.size W1 wr := hBL.out.trans (hF2.toBelow hBL.out.size (by rintro k rfl; exact hlb1))
    have d2 := cell_below hBj c2
    have d3 := cell_below hBj c3
    by_cases hlt : j < np
    ·obtain ⟨b, off, rfl, hc⟩ := HP.out (by omega)
     obtain ⟨x0, x1, x2, x3⟩ := hc j hlt
     obtain ⟨v1, v2, v3, v4⟩ := prodB_sortNat (valid_prod HV.out (k := j) (by have := HNP.out; omega))
     obtain ⟨⟨ra, rc, hrv, hrn2, hrc⟩, hri⟩ := HR.out j (by have := HNP.out; omega)
     rw [hrv] at x2
     have HSN := hid (roundB_snoc (k := false) (L := L0) (j := j) (ps := G.prods) (by have := HNP.out; omega))
     clear hc
     generalize hM : roundU (usB false (G.prods.take j)) L0 = M at *
     generalize G.prods.getD j default = P at *
     obtain ⟨so, hso⟩ : ∃ so : Nat, P.sort = so := ⟨P.sort.toNat, by omega⟩
     rw [hso] at x1
     have hsn' : so < ns := by have := HNS.out; omega
     have hstep : stepB false M P = M.set so (M.getD so false || P.rs.all (isK false M)) := by unfold stepB; rw [hso]; rfl
     have HSTEP := hid hstep
     replace x1 := cell_below hBj x1
     replace x2 := cell_below hBj x2
     have HRC := hid hrc
     have HRI := hid hri
     have HV4 := hid v4
     have hMl : M.length = ns := by rw [← hM]; exact (by have := (turnsB (k := false) (n := ns) (ps := G.prods.take j) (fun p hp => by obtain ⟨h1, h2, _⟩ := valid_rows HV.out p (List.mem_of_mem_take hp); have := HNS.out; omega)).inv L0 (by rw [← HLR.out]; exact (turnsB (k := false) (n := ns) (ps := G.prods) (fun p hp => by obtain ⟨h1, h2, _⟩ := valid_rows HV.out p hp; have := HNS.out; omega)).invs (by simp) r); exact this)
     clear hrc hri hrv v1 v2 v3 v4 x0 x3 hso hstep hM
     have HML := hid hMl
     clear hMl
     generalize hrl : P.rs.length = rl at *
     have HRL := hid hrl
     clear hrl
     have j0 : (0 : Int) ≤ (j : Int) := by omega
     have j1 : (j : Int) < (np : Int) := by omega
     have s0 : (0 : Int) ≤ (so : Int) := by omega
     have s1 : (so : Int) < (ns : Int) := by omega
     have y1 := cell_bools hl1 (i := so) (by have := HML.out; omega)
     have u1 := unfrozen_of_block hl1 so
     go_wp2_with fail
     go_loop [7, 8] (fun al i => ∃ q : Nat, q ≤ rl ∧ al = .bool ((P.rs.take q).all (isK false M)) ∧ i = .int .i64 (q : Int)) (fun _ i => rl - (RowKit.intOf i).toNat)
     case atStart => exact ⟨0, by omega, rfl, rfl⟩
     case round =>
      obtain ⟨q, hq, rfl, rfl⟩ := hrel
      by_cases hql : q < rl
      ·obtain ⟨rb, ro, rfl, hcc⟩ := HRC.out (by have := HRL.out; omega)
       have g : W1.cell? ⟨rb, ro + q, none⟩ = some (.int .i64 (P.rs.getD q 0)) := hcc q (by have := HRL.out; omega)
       replace g := cell_below hBj g
       have hsv := hid (HV4.out (P.rs.getD q 0) (mem_getD (by have := HRL.out; omega)))
       have hsr := hid (HRI.out (P.rs.getD q 0) (mem_getD (by have := HRL.out; omega)))
       have HTA := all_take P.rs (isK false M) 0 q (by have := HRL.out; omega)
       clear hcc
       obtain ⟨s, hs⟩ : ∃ s, P.rs.getD q 0 = s := ⟨_, rfl⟩
       rw [hs] at g hsv hsr HTA
       clear hs
       have k0 : (0 : Int) ≤ (q : Int) := by omega
       have k1 : (q : Int) < (rl : Int) := by omega
       by_cases hs0 : 0 ≤ s
       ·have hs1 : ¬ (s < 0) := by omega
        have b5 : decide (s < 0) = false := decide_eq_false hs1
        have b6 : decide (0 ≤ s) = true := decide_eq_true hs0
        rw [show isK false M s = false by unfold isK; rw [if_neg hs1]] at HTA
        have HTA := hid HTA
        generalize (P.rs.take q).all (isK false M) = xa at *
        cases xa
        all_goals
         go_wp2
         exact ⟨⟨q + 1, by omega, by rw [HTA.out] <;> rfl, by go_num⟩, by simp [RowKit.intOf]; omega⟩
       ·have hs1 : s < 0 := by omega
        have b5 : decide (s < 0) = true := decide_eq_true hs1
        have b6 : decide (0 ≤ s) = false := decide_eq_false hs0
        obtain ⟨t, ht⟩ : ∃ t : Nat, -1 - s = (t : Int) := ⟨(-1 - s).toNat, by omega⟩
        have htn : t < ns := by have := hsv.out; have := HNS.out; omega
        have i5 : IntKind.i64.wrap (-1 - s) = (t : Int) := by have := hsr.out; rw [IntKind.wrap_i64]; omega
        have i7 : (0 : Int) ≤ (t : Int) := by omega
        have i8 : (t : Int) < (ns : Int) := by omega
        rw [show isK false M s = M.getD t false by unfold isK; rw [if_pos hs1, show (-1 - s).toNat = t by omega]] at HTA
        have x4 := cell_bools hl1 (i := t) (by have := HML.out; omega)
        have HTA := hid HTA
        have HT := hid ht
        clear ht
        generalize (P.rs.take q).all (isK false M) = xa at *
        generalize M.getD t false = ea at *
        cases xa
        all_goals
         go_wp2
         exact ⟨⟨q + 1, by omega, by rw [HTA.out] <;> rfl, by go_num⟩, by simp [RowKit.intOf]; omega⟩
      ·have i2 : ¬ ((q : Int) < (rl : Int)) := by omega
       rw [List.take_of_length_le (by have := HRL.out; omega)]
       rw [HSTEP.out] at HSN
       generalize P.rs.all (isK false M) = xa at *
       generalize hy : M.getD so false = ya at *
       clear hy
       have hset : (wr.drew.setCell ⟨lb, so, none⟩ (.bool (ya || xa))).heap[lb]? = some (.cells ((M.set so (ya || xa)).map Value.bool).toArray 4) := by
        have := block_setCell (w := wr.drew) (i := so) hl1 (.bool (ya || xa))
        rw [this]
        simp [List.map_set]
       have HSET := hid hset
       have HF3 : Hid (Far (fun k => k = lb) w2 (wr.drew.setCell ⟨lb, so, none⟩ (.bool (ya || xa)))) := Far.set (p := ⟨lb, so, none⟩) (Far.drew hF2) rfl _
       clear hset
       cases ya <;> cases xa
       ·go_wp2_with fail
        refine region_T 20 (fun w' => w'.cell? ⟨w.heap.size, 3, none⟩ = some (.slice (some ⟨b, off, none⟩) np pc) ∧ w'.cell? ⟨b, off + j * 4 + 1, none⟩ = some (.int .i64 (so : Int)) ∧ w'.cell? ⟨lb, so, none⟩ = some (.bool false)) (by kernel_rfl) ⟨d3, x1, y1⟩ (fun inv hHeld => ?_)
        iterate 20
         refine anyT_auto (v := ?_) rfl (by kernel_rfl) (fun _ _ _ h => h) (Or.inl ⟨by rfl, ?_⟩) hHeld inv (fun inv => ?_)
         rotate_left
         ·intro w hSw
          try dsimp only at hSw
          go_simp
          try with_reducible rfl
         simp only [Act.put, List.setIfInBounds_toArray, List.set_cons_zero, List.set_cons_succ]
        have s3 := hHeld.2.2
        refine anyT_one (i := 20) (o := { dst := none, op := Op.store 4 (Operand.tmp 83) (Operand.tmp 82), type := 0, pos := "ref.go:24", after := #[{ on := 19, ground := Ground.data }, { on := 18, ground := Ground.data }, { on := 16, ground := Ground.chain }, { on := 0, ground := Ground.phase }, { on := 1, ground := Ground.phase }, { on := 2, ground := Ground.phase }, { on := 3, ground := Ground.phase }, { on := 4, ground := Ground.phase }, { on := 5, ground := Ground.phase }, { on := 6, ground := Ground.phase }, { on := 7, ground := Ground.phase }, { on := 8, ground := Ground.phase }, { on := 9, ground := Ground.phase }, { on := 10, ground := Ground.phase }, { on := 11, ground := Ground.phase }, { on := 12, ground := Ground.phase }, { on := 13, ground := Ground.phase }, { on := 14, ground := Ground.phase }, { on := 15, ground := Ground.phase }, { on := 16, ground := Ground.phase }, { on := 17, ground := Ground.phase }, { on := 18, ground := Ground.phase }], guard := none }) (by kernel_rfl) rfl (fun K' hK => ?_)
        go_simp
        refine hK.out _ _ (fun h => absurd h (by decide)) ?_
        clear hK K'
        try simp only [Act.put, List.setIfInBounds_toArray, List.set_cons_zero, List.set_cons_succ]
        refine anyT_done (by kernel_rfl) ?_ _
        go_wp2
        exact ⟨⟨j + 1, by omega, by go_num, by rw [HSN.out]; exact HSET.out, HF3.out⟩, by simp [RowKit.intOf]; omega⟩
       ·go_wp2_with fail
        refine region_T 20 (fun w' => w'.cell? ⟨w.heap.size, 3, none⟩ = some (.slice (some ⟨b, off, none⟩) np pc) ∧ w'.cell? ⟨b, off + j * 4 + 1, none⟩ = some (.int .i64 (so : Int)) ∧ w'.cell? ⟨lb, so, none⟩ = some (.bool false)) (by kernel_rfl) ⟨d3, x1, y1⟩ (fun inv hHeld => ?_)
        iterate 20
         refine anyT_auto (v := ?_) rfl (by kernel_rfl) (fun _ _ _ h => h) (Or.inl ⟨by rfl, ?_⟩) hHeld inv (fun inv => ?_)
         rotate_left
         ·intro w hSw
          try dsimp only at hSw
          go_simp
          try with_reducible rfl
         simp only [Act.put, List.setIfInBounds_toArray, List.set_cons_zero, List.set_cons_succ]
        have s3 := hHeld.2.2
        refine anyT_one (i := 20) (o := { dst := none, op := Op.store 4 (Operand.tmp 83) (Operand.tmp 82), type := 0, pos := "ref.go:24", after := #[{ on := 19, ground := Ground.data }, { on := 18, ground := Ground.data }, { on := 16, ground := Ground.chain }, { on := 0, ground := Ground.phase }, { on := 1, ground := Ground.phase }, { on := 2, ground := Ground.phase }, { on := 3, ground := Ground.phase }, { on := 4, ground := Ground.phase }, { on := 5, ground := Ground.phase }, { on := 6, ground := Ground.phase }, { on := 7, ground := Ground.phase }, { on := 8, ground := Ground.phase }, { on := 9, ground := Ground.phase }, { on := 10, ground := Ground.phase }, { on := 11, ground := Ground.phase }, { on := 12, ground := Ground.phase }, { on := 13, ground := Ground.phase }, { on := 14, ground := Ground.phase }, { on := 15, ground := Ground.phase }, { on := 16, ground := Ground.phase }, { on := 17, ground := Ground.phase }, { on := 18, ground := Ground.phase }], guard := none }) (by kernel_rfl) rfl (fun K' hK => ?_)
        go_simp
        refine hK.out _ _ (fun h => absurd h (by decide)) ?_
        clear hK K'
        try simp only [Act.put, List.setIfInBounds_toArray, List.set_cons_zero, List.set_cons_succ]
        refine anyT_done (by kernel_rfl) ?_ _
        go_wp2
        exact ⟨⟨j + 1, by omega, by go_num, by rw [HSN.out]; exact HSET.out, HF3.out⟩, by simp [RowKit.intOf]; omega⟩
       ·go_wp2_with fail
        refine region_T 20 (fun w' => w'.cell? ⟨w.heap.size, 3, none⟩ = some (.slice (some ⟨b, off, none⟩) np pc) ∧ w'.cell? ⟨b, off + j * 4 + 1, none⟩ = some (.int .i64 (so : Int)) ∧ w'.cell? ⟨lb, so, none⟩ = some (.bool true)) (by kernel_rfl) ⟨d3, x1, y1⟩ (fun inv hHeld => ?_)
        iterate 17
         refine anyT_auto (v := ?_) rfl (by kernel_rfl) (fun _ _ _ h => h) (Or.inl ⟨by rfl, ?_⟩) hHeld inv (fun inv => ?_)
         rotate_left
         ·intro w hSw
          try dsimp only at hSw
          go_simp
          try with_reducible rfl
         simp only [Act.put, List.setIfInBounds_toArray, List.set_cons_zero, List.set_cons_succ]
        refine anyT_take (i := 17) (oi := { dst := some 81, op := Op.move (Operand.tmp 7), type := 4, pos := "ref.go:24", after := #[{ on := 16, ground := Ground.guard }], guard := some (16, false) }) (v := undef) rfl (by kernel_rfl) (by kernel_rfl) (by kernel_rfl) (by decide) (by decide) (by kernel_rfl) (by kernel_rfl) (fun _ _ _ h => h) (Or.inr ⟨by rfl, rfl⟩) hHeld inv (fun inv => ?_)
        simp only [Act.put, List.setIfInBounds_toArray, List.set_cons_zero, List.set_cons_succ]
        iterate 2
         refine anyT_auto (v := ?_) rfl (by kernel_rfl) (fun _ _ _ h => h) (Or.inl ⟨by rfl, ?_⟩) hHeld inv (fun inv => ?_)
         rotate_left
         ·intro w hSw
          try dsimp only at hSw
          go_simp
          try with_reducible rfl
         simp only [Act.put, List.setIfInBounds_toArray, List.set_cons_zero, List.set_cons_succ]
        have s3 := hHeld.2.2
        refine anyT_one (i := 20) (o := { dst := none, op := Op.store 4 (Operand.tmp 83) (Operand.tmp 82), type := 0, pos := "ref.go:24", after := #[{ on := 19, ground := Ground.data }, { on := 18, ground := Ground.data }, { on := 16, ground := Ground.chain }, { on := 0, ground := Ground.phase }, { on := 1, ground := Ground.phase }, { on := 2, ground := Ground.phase }, { on := 3, ground := Ground.phase }, { on := 4, ground := Ground.phase }, { on := 5, ground := Ground.phase }, { on := 6, ground := Ground.phase }, { on := 7, ground := Ground.phase }, { on := 8, ground := Ground.phase }, { on := 9, ground := Ground.phase }, { on := 10, ground := Ground.phase }, { on := 11, ground := Ground.phase }, { on := 12, ground := Ground.phase }, { on := 13, ground := Ground.phase }, { on := 14, ground := Ground.phase }, { on := 15, ground := Ground.phase }, { on := 16, ground := Ground.phase }, { on := 17, ground := Ground.phase }, { on := 18, ground := Ground.phase }], guard := none }) (by kernel_rfl) rfl (fun K' hK => ?_)
        go_simp
        refine hK.out _ _ (fun h => absurd h (by decide)) ?_
        clear hK K'
        try simp only [Act.put, List.setIfInBounds_toArray, List.set_cons_zero, List.set_cons_succ]
        refine anyT_done (by kernel_rfl) ?_ _
        go_wp2
        exact ⟨⟨j + 1, by omega, by go_num, by rw [HSN.out]; exact HSET.out, HF3.out⟩, by simp [RowKit.intOf]; omega⟩
       ·go_wp2_with fail
        refine region_T 20 (fun w' => w'.cell? ⟨w.heap.size, 3, none⟩ = some (.slice (some ⟨b, off, none⟩) np pc) ∧ w'.cell? ⟨b, off + j * 4 + 1, none⟩ = some (.int .i64 (so : Int)) ∧ w'.cell? ⟨lb, so, none⟩ = some (.bool true)) (by kernel_rfl) ⟨d3, x1, y1⟩ (fun inv hHeld => ?_)
        iterate 17
         refine anyT_auto (v := ?_) rfl (by kernel_rfl) (fun _ _ _ h => h) (Or.inl ⟨by rfl, ?_⟩) hHeld inv (fun inv => ?_)
         rotate_left
         ·intro w hSw
          try dsimp only at hSw
          go_simp
          try with_reducible rfl
         simp only [Act.put, List.setIfInBounds_toArray, List.set_cons_zero, List.set_cons_succ]
        refine anyT_take (i := 17) (oi := { dst := some 81, op := Op.move (Operand.tmp 7), type := 4, pos := "ref.go:24", after := #[{ on := 16, ground := Ground.guard }], guard := some (16, false) }) (v := undef) rfl (by kernel_rfl) (by kernel_rfl) (by kernel_rfl) (by decide) (by decide) (by kernel_rfl) (by kernel_rfl) (fun _ _ _ h => h) (Or.inr ⟨by rfl, rfl⟩) hHeld inv (fun inv => ?_)
        simp only [Act.put, List.setIfInBounds_toArray, List.set_cons_zero, List.set_cons_succ]
        iterate 2
         refine anyT_auto (v := ?_) rfl (by kernel_rfl) (fun _ _ _ h => h) (Or.inl ⟨by rfl, ?_⟩) hHeld inv (fun inv => ?_)
         rotate_left
         ·intro w hSw
          try dsimp only at hSw
          go_simp
          try with_reducible rfl
         simp only [Act.put, List.setIfInBounds_toArray, List.set_cons_zero, List.set_cons_succ]
        have s3 := hHeld.2.2
        refine anyT_one (i := 20) (o := { dst := none, op := Op.store 4 (Operand.tmp 83) (Operand.tmp 82), type := 0, pos := "ref.go:24", after := #[{ on := 19, ground := Ground.data }, { on := 18, ground := Ground.data }, { on := 16, ground := Ground.chain }, { on := 0, ground := Ground.phase }, { on := 1, ground := Ground.phase }, { on := 2, ground := Ground.phase }, { on := 3, ground := Ground.phase }, { on := 4, ground := Ground.phase }, { on := 5, ground := Ground.phase }, { on := 6, ground := Ground.phase }, { on := 7, ground := Ground.phase }, { on := 8, ground := Ground.phase }, { on := 9, ground := Ground.phase }, { on := 10, ground := Ground.phase }, { on := 11, ground := Ground.phase }, { on := 12, ground := Ground.phase }, { on := 13, ground := Ground.phase }, { on := 14, ground := Ground.phase }, { on := 15, ground := Ground.phase }, { on := 16, ground := Ground.phase }, { on := 17, ground := Ground.phase }, { on := 18, ground := Ground.phase }], guard := none }) (by kernel_rfl) rfl (fun K' hK => ?_)
        go_simp
        refine hK.out _ _ (fun h => absurd h (by decide)) ?_
        clear hK K'
        try simp only [Act.put, List.setIfInBounds_toArray, List.set_cons_zero, List.set_cons_succ]
        refine anyT_done (by kernel_rfl) ?_ _
        go_wp2
        exact ⟨⟨j + 1, by omega, by go_num, by rw [HSN.out]; exact HSET.out, HF3.out⟩, by simp [RowKit.intOf]; omega⟩
    ·have j1 : ¬ ((j : Int) < (np : Int)) := by omega
     rw [List.take_of_length_le (by have := HNP.out; omega)] at hl1
     have HL2 : Hid (wr.heap[lb]? = some (.cells ((roundsU (usB false G.prods) (r + 1) (List.replicate ns false)).map Value.bool).toArray 4)) := by
      show wr.heap[lb]? = some (.cells ((roundU (usB false G.prods) (roundsU (usB false G.prods) r (List.replicate ns false))).map Value.bool).toArray 4)
      rw [HLR.out]; exact hl1
     have HF2 := hid hF2
     clear hl1 hF2
     go_wp2
     exact ⟨⟨r + 1, by omega, by go_num, HL2.out, HF2.out⟩, by simp [RowKit.intOf]; omega⟩
  ·obtain rfl : r = ns + 1 := by omega
   have r1 : ¬ (((ns + 1 : Nat) : Int) ≤ (ns : Int)) := by omega
   have HL1 := hid hl1
   clear hl1
   go_wp2
   go_ret
   exact ⟨lb, rfl, _, HLE.out, HL1.out, by omega, hb.trans (hBr.mono hsz)⟩
end Go.Proofs.YticmnfmijdgmbaaGreatDoor.S13

/- Plain mathematics: rounds enough of sets. -/
namespace Go.Proofs.YticmnfmijdgmbaaGreatDoor.S13
def InvS (n : Nat) (L : List Nat) : Prop := L.length = n ∧ ∀ x ∈ L, x < top
def patS (t : Nat) (L : List Nat) : List Bool := L.map fun x => x.testBit t
structure LocS (n : Nat) (evs : List Ev) : Prop where
 place : ∀ e ∈ evs, e.1 < n
 set : ∀ e ∈ evs, ∀ L, InvS n L → e.2 L < top
 bit : ∀ e ∈ evs, ∀ t a b, InvS n a → InvS n b → patS t a = patS t b → (e.2 a).testBit t = (e.2 b).testBit t
theorem patS_getD {t : Nat} {L : List Nat} (i : Nat) : (patS t L).getD i false = (L.getD i 0).testBit t := by
 unfold patS
 rw [List.getD_eq_getElem?_getD, List.getD_eq_getElem?_getD, List.getElem?_map]
 cases L[i]? <;> simp
theorem patS_step (t : Nat) (L : List Nat) (e : Ev) : patS t (stepS L e) = (patS t L).set e.1 ((patS t L).getD e.1 false || (e.2 L).testBit t) := by
 rw [patS_getD]
 unfold patS stepS
 rw [List.map_set, Nat.testBit_or]
def usS (evs : List Ev) : List (List Nat → List Nat) := evs.map fun e L => stepS L e
theorem turnsS {n : Nat} {evs : List Ev} (h : LocS n evs) (t : Nat) : Turns (InvS n) (patS t) (usS evs) := by
 refine ⟨fun u hu L hL => ?_, fun u hu L L' hL hL' e => ?_, fun u hu L hL => ?_⟩
 ·obtain ⟨e, he, rfl⟩ := List.mem_map.1 hu
  exact ⟨by show (stepS L e).length = n; rw [stepS_length]; exact hL.1, set_lt hL.2 _ (or_lt (getD_lt hL.2 _) (h.set e he L hL))⟩
 ·obtain ⟨x, hx, rfl⟩ := List.mem_map.1 hu
  show patS t (stepS L x) = patS t (stepS L' x)
  rw [patS_step, patS_step, e, h.bit x hx t L L' hL hL' e]
 ·obtain ⟨e, he, rfl⟩ := List.mem_map.1 hu
  show patS t (stepS L e) = patS t L ∨ cf (patS t (stepS L e)) < cf (patS t L)
  rw [patS_step]
  have hi : e.1 < (patS t L).length := by unfold patS; rw [List.length_map, hL.1]; exact h.place e he
  cases h1 : (patS t L).getD e.1 false
  ·cases h2 : (e.2 L).testBit t
   ·left
    have := set_same (L := patS t L) (i := e.1)
    rw [h1] at this
    exact this
   ·right
    have := count_set _ _ hi h1
    show ((patS t L).set e.1 (false || true)).count false < _
    rw [Bool.false_or]
    show _ < (patS t L).count false
    omega
  ·left
   have := set_same (L := patS t L) (i := e.1)
   rw [h1] at this
   simpa using this
theorem reach_roundsS {evs : List Ev} {L0 : List Nat} (n : Nat) : ReachS evs L0 (roundsU (usS evs) n L0) := by
 induction n with
 | zero => exact .refl
 | succ n ih =>
  have : ∀ (qs : List Ev), (∀ q ∈ qs, q ∈ evs) → ∀ M, ReachS evs L0 M → ReachS evs L0 (roundU (usS qs) M) := by
   intro qs
   induction qs with
   | nil => exact fun _ M h => h
   | cons q qs ih2 => exact fun hq M h => ih2 (fun x hx => hq x (List.mem_cons_of_mem _ hx)) _ (.step h (hq q List.mem_cons_self))
  exact this evs (fun _ h => h) _ ih
theorem invS_zero (n : Nat) : InvS n (List.replicate n 0) := ⟨by simp, fun x hx => by rw [List.eq_of_mem_replicate hx]; decide⟩
theorem closed_rounds {n : Nat} {evs : List Ev} (h : LocS n evs) {L0 : List Nat} (h0 : InvS n L0) : ClosedS evs (roundsU (usS evs) (n + 1) L0) ∧ InvS n (roundsU (usS evs) (n + 1) L0) := by
 have hI := (turnsS h 0).invs h0 (n + 1)
 refine ⟨fun e he => sub_iff.2 fun t ht => ?_, hI⟩
 have hc := (turnsS h t).closed h0 (n := n) (by
  show (patS t L0).count false ≤ n
  have := List.count_le_length (a := false) (l := patS t L0)
  unfold patS at this ⊢
  rw [List.length_map, h0.1] at this
  exact this) _ (List.mem_map.2 ⟨e, he, rfl⟩)
 generalize roundsU (usS evs) (n + 1) L0 = M at *
 have h1 : patS t (stepS M e) = patS t M := hc
 have h2 : (patS t (stepS M e)).getD e.1 false = (patS t M).getD e.1 false := by rw [h1]
 rw [patS_getD, patS_getD] at h2
 rw [← h2]
 unfold stepS
 rw [List.getD_eq_getElem?_getD, List.getElem?_set_self (by rw [hI.1]; exact h.place e he), Option.getD_some, Nat.testBit_or, ht]
 simp
theorem leastS_rounds {n : Nat} {evs : List Ev} (h : LocS n evs) : LeastS evs n (roundsU (usS evs) (n + 1) (List.replicate n 0)) :=
 ⟨reach_roundsS _, (closed_rounds h (invS_zero n)).1, (closed_rounds h (invS_zero n)).2.2⟩
theorem ofRow_bit (nt : Nat) (E : List Bool) {F F' : List Nat} {t : Nat} (hl : F.length = F'.length) (hb : patS t F = patS t F') : ∀ (l : List Int) {b b' : Nat}, b.testBit t = b'.testBit t → (ofRow nt E F l b).testBit t = (ofRow nt E F' l b').testBit t
 | [], _, _, h => h
 | s :: l, b, b', h => by
  have ih := ofRow_bit nt E hl hb l h
  unfold ofRow
  split
  ·rfl
  ·rw [← hl]
   split
   ·rfl
   ·rw [Nat.testBit_or, Nat.testBit_or, ← patS_getD, ← patS_getD, hb]
    congr 1
    split
    ·exact ih
    ·rfl
theorem locF {nt n : Nat} {E : List Bool} {ps : List PD} (hs : ∀ p ∈ ps, p.sort.toNat < n) : LocS n (evF nt E ps) := by
 refine ⟨fun e he => ?_, fun e he L hL => ?_, fun e he t a b ha hb hp => ?_⟩
 ·obtain ⟨p, hp, rfl⟩ := List.mem_map.1 he
  exact hs p hp
 ·obtain ⟨p, hp, rfl⟩ := List.mem_map.1 he
  exact ofRow_lt nt E hL.2 _ (by decide)
 ·obtain ⟨p, _, rfl⟩ := List.mem_map.1 he
  exact ofRow_bit nt E (by rw [ha.1, hb.1]) hp _ rfl
end Go.Proofs.YticmnfmijdgmbaaGreatDoor.S13

/- Lists of numbers, for the document's own answers on sets. -/
namespace Go.Proofs.YticmnfmijdgmbaaGreatDoor.S13
open Go Go.RowKit Go.Lib
theorem info3 : (Tryz.prog.info? 3).map (fun i => (i.zero, i.size, i.bytes)) = some (some (.int .i64 0), 1, 8) := by kernel_rfl
def nums (l : List Nat) : List Value := l.map fun k : Nat => Value.int .i64 (k : Int)
def Listed (base : Nat) (l : List Nat) (W : World) (v : Value) : Prop := W.ownsRow base 3 1 v l.length (nums l) ∧ (v = .slice none 0 0 ↔ l = [])
theorem has_iff (a : Nat) (n : Int) : hasN a n = true ↔ (0 ≤ n ∧ n < 64 ∧ a.testBit n.toNat = true) := by
 unfold hasN
 rw [decide_eq_true_eq, and_bitN_ne]
def Reads (W : World) (v : Value) (l : List Int) : Prop :=
 ∃ a cap, v = .slice a l.length cap ∧ (l ≠ [] → ∃ b off, a = some ⟨b, off, none⟩ ∧ ∀ i, i < l.length → W.cell? ⟨b, off + i, none⟩ = some (.int .i64 (l.getD i 0)))
def ints (l : List Nat) : List Int := l.map fun k : Nat => (k : Int)
theorem Listed.reads {base : Nat} {l : List Nat} {W : World} {v : Value} (h : Listed base l W v) : Reads W v (ints l) := by
 obtain ⟨ho, hn⟩ := h
 rcases ho.2 with ⟨rfl, h0⟩ | ⟨g, cap, cur, rfl, hb, hg, h1, h2, h3, h4⟩
 ·have : l = [] := List.eq_nil_of_length_eq_zero h0
  subst this
  exact ⟨none, 0, rfl, fun h => absurd rfl h⟩
 ·refine ⟨some ⟨g, 0, none⟩, cap, by simp [ints], fun _ => ⟨g, 0, rfl, fun i hi => ?_⟩⟩
  have hi' : i < l.length := by simpa [ints] using hi
  have := ho.cellAt i (by simpa using hi')
  rw [Nat.zero_add, this]
  simp [nums, ints, hi']
theorem Listed.below {base : Nat} {l : List Nat} {W W' : World} {v : Value} (h : Listed base l W v) (hb : Below W.heap.size W W') : Listed base l W' v := by
 refine ⟨⟨h.1.1, h.1.2.imp id fun ⟨g, cap, cur, e1, e2, e3, e4⟩ => ⟨g, cap, cur, e1, e2, ?_, e4⟩⟩, h.2⟩
 exact (hb.block g (Array.getElem?_eq_some_iff.1 e3).1).trans e3
theorem Reads.below {l : List Int} {W W' : World} {v : Value} (h : Reads W v l) (hb : Below W.heap.size W W') : Reads W' v l := by
 obtain ⟨a, cap, rfl, h⟩ := h
 refine ⟨a, cap, rfl, fun hn => ?_⟩
 obtain ⟨b, off, rfl, hc⟩ := h hn
 refine ⟨b, off, rfl, fun i hi => ?_⟩
 have hci := hc i hi
 have hlt : b < W.heap.size := by
  apply Classical.byContradiction
  intro hge
  have : W.heap[b]? = none := by simp; omega
  simp [World.cell?, this] at hci
 exact (hb.cell (p := ⟨b, off + i, none⟩) hlt).trans hci
end Go.Proofs.YticmnfmijdgmbaaGreatDoor.S13

/- The document's own answers for sets of small numbers: whether a set has a number, and the set of one number. -/
namespace Go.Proofs.YticmnfmijdgmbaaGreatDoor.S13
open Go Go.RowKit Go.Lib
theorem shr_half (a k : Nat) : a >>> k / 2 = a >>> (k + 1) := by
 rw [← shr_one a k, Nat.shiftRight_eq_div_pow (a >>> k) 1]
theorem hasN_shr (a n : Nat) (hn : n < 64) : hasN a (n : Int) = decide (a >>> n % 2 = 1) := by
 rw [← testBit_shr, Bool.eq_iff_iff, has_iff]
 constructor
 ·exact fun h => by simpa using h.2.2
 ·exact fun h => ⟨by omega, by omega, by simpa using h⟩
theorem shr_le (a k : Nat) : a >>> k ≤ a := by rw [Nat.shiftRight_eq_div_pow]; exact Nat.div_le_self _ _
theorem RHas_any (a : Nat) (n : Int) (ha : a < 18446744073709551616) (w : World) : Calls Tryz.prog 78 #[u64 a, .int .i64 n] w fun e w' => e = .returned (.bool (hasN a n)) ∧ w = w' := by
 by_cases h0 : n < 0
 ·have e : hasN a n = false := by
   cases h : hasN a n
   ·rfl
   ·have := (has_iff a n).1 h; omega
  rw [e]
  have E := hid e
  clear e
  go_enter Tryz.func78, Tryz.ntmps78
  go_wp2
  go_ret
  exact ⟨rfl, rfl⟩
 ·by_cases h1 : 63 < n
  ·have e : hasN a n = false := by
    cases h : hasN a n
    ·rfl
    ·have := (has_iff a n).1 h; omega
   rw [e]
   have E := hid e
   clear e
   go_enter Tryz.func78, Tryz.ntmps78
   go_wp2
   go_ret
   exact ⟨rfl, rfl⟩
  ·obtain ⟨m, rfl⟩ : ∃ m : Nat, n = m := ⟨n.toNat, by omega⟩
   have e := hasN_shr a m (by omega)
   generalize hasN a (m : Int) = B at *
   have E := hid e
   clear e
   go_enter Tryz.func78, Tryz.ntmps78
   go_wp2
   go_loop [0, 5] (fun s i => ∃ k : Nat, k ≤ m ∧ i = .int .i64 (k : Int) ∧ s = u64 (a >>> k)) (fun _ i => m - (intOf i).toNat)
   case atStart => exact ⟨0, Nat.zero_le _, rfl, rfl⟩
   case round =>
    obtain ⟨k, hk, rfl, rfl⟩ := hrel
    have hs := shr_le a k
    have HH := hid (shr_half a k)
    generalize hx : a >>> k = x at *
    have HX := hid hx
    clear hx
    have hx0 : (0 : Int) ≤ (x : Int) := by omega
    by_cases hlt : k < m
    ·go_wp2
     exact ⟨⟨k + 1, by omega, by go_num, by rw [← HH.out]; rfl⟩, by simp [intOf]; omega⟩
    ·obtain rfl : k = m := by omega
     go_wp2
     go_ret
     refine ⟨?_, rfl⟩
     rw [E.out, HX.out]
     show Ending.returned (.bool (((x : Int) % 2) == 1)) = _
     congr 2
     rw [Bool.eq_iff_iff]
     simp
     omega
theorem bitN_succ (k : Nat) (h : k + 1 < 64) : bitN ((k : Int) + 1) = bitN (k : Int) * 2 := by
 unfold bitN
 rw [if_pos (by omega), if_pos (by omega)]
 rw [show ((k : Int) + 1).toNat = k + 1 by omega, Int.toNat_natCast, Nat.pow_succ]
theorem RBit_any (m : Nat) (hm : m < 64) (w : World) : Calls Tryz.prog 92 #[.int .i64 (m : Int)] w fun e w' => e = .returned (u64 (bitN (m : Int))) ∧ w = w' := by
 go_enter Tryz.func92, Tryz.ntmps92
 go_wp2
 go_loop [3, 4] (fun s i => ∃ k : Nat, k ≤ m ∧ i = .int .i64 (k : Int) ∧ s = u64 (bitN (k : Int))) (fun _ i => m - (intOf i).toNat)
 case atStart => exact ⟨0, Nat.zero_le _, rfl, rfl⟩
 case round =>
  obtain ⟨k, hk, rfl, rfl⟩ := hrel
  by_cases hlt : k < m
  ·have HB := hid (bitN_succ k (by omega))
   have hb := bitN_lt ((k : Int) + 1)
   rw [HB.out] at hb
   generalize bitN (k : Int) = x at *
   have HX : IntKind.u64.wrap ((x : Int) * 2) = ((x * 2 : Nat) : Int) := by rw [IntKind.wrap_u64]; omega
   have HY := hid HX
   clear HX
   go_wp2
   exact ⟨⟨k + 1, by omega, by go_num, by rw [show ((k + 1 : Nat) : Int) = (k : Int) + 1 from rfl, HB.out]; first | rfl | rw [HY.out]⟩, by simp [intOf]; omega⟩
  ·obtain rfl : k = m := by omega
   go_wp2
   go_ret
   exact ⟨rfl, rfl⟩
end Go.Proofs.YticmnfmijdgmbaaGreatDoor.S13

/- The document's own answers for sets: its list of a set's numbers, and its set of some numbers. -/
namespace Go.Proofs.YticmnfmijdgmbaaGreatDoor.S13
open Go Go.RowKit Go.Lib
theorem listed_nil (base : Nat) (W : World) : Listed base [] W (.slice none 0 0) := ⟨World.ownsRow_nil _ _ _ _, by simp⟩
theorem listed_snoc {base k : Nat} {l : List Nat} {W : World} {v : Value} (h : W.ownsRow base 3 1 v (l.length + 1) (nums l ++ [.int .i64 (k : Int)])) : Listed base (l ++ [k]) W v := by
 obtain ⟨g, cap, rfl⟩ := ownsRow_succ h
 exact ⟨by simpa [nums] using h, by simp⟩
theorem below_append {base : Nat} {w wr w1 : World} {v : Value} {l : List Nat} {o : Obj} (hB : Below base w wr) (hb : base ≤ wr.heap.size) (hL : Listed base l wr v) (hg : (wr.alloc o).grownBy w1 v.ownBlock) : Below base w w1 :=
 (hB.alloc hb o).grown hg (by simp; omega) fun k e => (hL.1.lt k e).1
set_option maxHeartbeats 1000000 in
set_option maxRecDepth 100000 in
set_option maxHeartbeats 2000000 in
theorem RList_any (a : Nat) (ha : a < 18446744073709551616) (w : World) :
  Calls Tryz.prog 125 #[u64 a] w fun e W' => ∃ v, e = .returned v ∧ Listed w.heap.size (upto a 64) W' v ∧ Below w.heap.size w W' := by
 obtain ⟨i0, hi, hz0, hz1, hz2⟩ := info_parts info3
 go_enter Tryz.func125, Tryz.ntmps125
 go_wp2
 go_loopw [3, 4] (fun v i wr => ∃ k : Nat, k ≤ 64 ∧ i = .int .i64 (k : Int) ∧ Listed w.heap.size (upto a k) wr v ∧ Below w.heap.size w wr) (fun _ i _ => 64 - (intOf i).toNat)
 case atStart => exact ⟨0, by omega, rfl, listed_nil _ _, Below.refl _ _⟩
 case round =>
  obtain ⟨k, hk, rfl, hL, hB⟩ := hrel
  have hlen := upto_length a k
  have hsz := hB.size
  by_cases hlt : k < 64
  ·have kh := hid fun w => RHas_any a k ha w
   cases hb : a.testBit k
   ·rw [show hasN a (k : Int) = false by rw [hasN_shr a k hlt, ← testBit_shr, hb]] at kh
    have HU := hid (upto_miss hb)
    clear hb
    go_wp2_with (go_at_call 78; refine (kh.out _).mono ?_; rintro e w' ⟨rfl, rfl⟩)
    exact ⟨⟨k + 1, by omega, by go_num, by rw [HU.out]; exact hL, hB⟩, by simp [intOf]; omega⟩
   ·rw [show hasN a (k : Int) = true by rw [hasN_shr a k hlt, ← testBit_shr, hb]] at kh
    have HU := hid (upto_hit hb)
    clear hb
    generalize hl : upto a k = l at *
    clear hl
    have hrow := hL.1
    go_wp2_with (first | (go_at_call 78; refine (kh.out _).mono ?_; rintro e w' ⟨rfl, rfl⟩) | (at_builtin; go_must (refine wpList_append_own _ rfl _ _ 43 rfl w.heap.size 3 i0 (.int .i64 0) 1 8 Tryz.underlying43 hi hz0 hz1 hz2 rfl (by decide) _ _ _ rfl (hrow.alloc _) ⟨wr.heap.size, 0, none⟩ 1 1 [.int .i64 (k : Int)] rfl rfl (cell_one_new _ _ _) (by simp [Value.oneCell']) (by unfold maxLen; omega) (by omega) (by simp; omega) ?_); intro v' w1 hown' hgrow _))
    exact ⟨⟨k + 1, by omega, by go_num, by rw [HU.out]; exact listed_snoc hown', below_append hB hsz hL hgrow⟩, by simp [intOf]; omega⟩
  ·obtain rfl : k = 64 := by omega
   go_wp2
   go_ret
   exact ⟨_, rfl, hL, hB⟩
end Go.Proofs.YticmnfmijdgmbaaGreatDoor.S13

/- The document's own set of some numbers: number by number. -/
namespace Go.Proofs.YticmnfmijdgmbaaGreatDoor.S13
open Go Go.RowKit Go.Lib
def lowN (s k : Nat) : Nat := s % 2 ^ k
theorem lowN_hit {s k : Nat} (hk : k < 64) (h : s.testBit k = true) : lowN s (k + 1) = lowN s k + bitN (k : Int) := by
 rw [Nat.testBit_eq_decide_div_mod_eq, decide_eq_true_eq] at h
 unfold lowN bitN
 rw [Nat.mod_pow_succ, h, if_pos (by omega)]
 simp
theorem lowN_miss {s k : Nat} (h : s.testBit k = false) : lowN s (k + 1) = lowN s k := by
 rw [Nat.testBit_eq_decide_div_mod_eq, decide_eq_false_iff_not] at h
 unfold lowN
 rw [Nat.mod_pow_succ, show s / 2 ^ k % 2 = 0 by omega]
 simp
theorem lowN_all {s : Nat} (h : s < 18446744073709551616) : lowN s 64 = s := Nat.mod_eq_of_lt h
theorem lowN_le (s k : Nat) : lowN s k ≤ s := Nat.mod_le _ _
def inTake (l : List Int) (k j : Nat) : Bool := decide ((k : Int) ∈ l.take j)
theorem inTake_step {l : List Int} {k j : Nat} (hj : j < l.length) : inTake l k (j + 1) = (inTake l k j || (l.getD j 0 == (k : Int))) := by
 unfold inTake
 rw [take_snoc hj, Bool.eq_iff_iff]
 simp
 exact or_congr Iff.rfl eq_comm
theorem inTake_all {l : List Int} {k : Nat} (hk : k < 64) : inTake l k l.length = (ofN l).testBit k := by
 rw [testBit_ofN, inTake, List.take_length]; simp [hk]
set_option maxHeartbeats 1000000 in
theorem ROf_reads {v : Value} {l : List Int} {w : World} (hl : l.length ≤ 9223372036854775807) (h : Reads w v l) :
  Calls Tryz.prog 49 #[v] w fun e w' => e = .returned (u64 (ofN l)) ∧ w = w' := by
 obtain ⟨A, cap, rfl, hrd⟩ := h
 have HRD := hid hrd
 clear hrd
 have hof := ofN_lt l
 go_enter Tryz.func49, Tryz.ntmps49
 go_wp2
 go_loop [3, 4, 5, 6] (fun s n _ _ => ∃ k : Nat, k ≤ 64 ∧ n = .int .i64 (k : Int) ∧ s = u64 (lowN (ofN l) k)) (fun _ n _ _ => 64 - (intOf n).toNat)
 case atStart => exact ⟨0, by omega, rfl, by simp [lowN]⟩
 case round =>
  obtain ⟨k, hk, rfl, rfl⟩ := hrel
  by_cases hlt : k < 64
  ·have HA := hid (inTake_all (l := l) hlt)
   go_wp2
   go_loop [5, 6] (fun b i => ∃ j : Nat, j ≤ l.length ∧ i = .int .i64 (j : Int) ∧ b = .bool (inTake l k j)) (fun _ i => l.length - (intOf i).toNat)
   case atStart => exact ⟨0, Nat.zero_le _, rfl, by simp [inTake]⟩
   case round =>
    obtain ⟨j, hj, rfl, rfl⟩ := hrel
    by_cases hjl : j < l.length
    ·obtain ⟨b, off, rfl, hc⟩ := HRD.out (fun e => by rw [e] at hjl; simp at hjl)
     have g1 := hc j hjl
     clear hc
     have HS := hid (inTake_step (k := k) hjl)
     generalize hx : l.getD j 0 = x at *
     clear hx
     have hi : (0 : Int) ≤ (j : Int) := by omega
     have hi2 : (j : Int) < (l.length : Int) := by omega
     generalize inTake l k j = B at *
     cases B
     ·go_wp2
      exact ⟨⟨j + 1, by omega, by go_num, by rw [HS.out]; rfl⟩, by simp [intOf]; omega⟩
     ·go_wp2
      exact ⟨⟨j + 1, by omega, by go_num, by rw [HS.out]; rfl⟩, by simp [intOf]; omega⟩
    ·obtain rfl : j = l.length := by omega
     have HA2 := HA.out
     cases hb : (ofN l).testBit k
     ·rw [hb] at HA2
      rw [HA2]
      have HU := hid (lowN_miss hb)
      clear hb HA2
      go_wp2
      exact ⟨⟨k + 1, by omega, by go_num, by rw [HU.out]⟩, by simp [intOf]; omega⟩
     ·rw [hb] at HA2
      rw [HA2]
      have HU := hid (lowN_hit hlt hb)
      have h2 := lowN_le (ofN l) (k + 1)
      rw [HU.out] at h2
      clear hb HA2
      have kb := hid fun w => RBit_any k hlt w
      generalize lowN (ofN l) k = x at *
      generalize bitN (k : Int) = y at *
      go_wp2_with (go_at_call 92; refine (kb.out _).mono ?_; rintro e w' ⟨rfl, rfl⟩)
      exact ⟨⟨k + 1, by omega, by go_num, by rw [HU.out]; exact congrArg (Value.int .u64) (Int.natCast_add x y).symm⟩, by simp [intOf]; omega⟩
  ·obtain rfl : k = 64 := by omega
   go_wp2
   go_ret
   exact ⟨by rw [lowN_all hof]; rfl, rfl⟩
end Go.Proofs.YticmnfmijdgmbaaGreatDoor.S13
