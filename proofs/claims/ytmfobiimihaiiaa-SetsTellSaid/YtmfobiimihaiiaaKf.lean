/- The document's own answer: what may follow. -/
import Derived.Test.YtmfobiimihaiiaaKz
import Derived.Test.YtmfobiimihaiiaaHy
namespace Go.Proofs.Ytmfobiimihaiiaa
open Go Go.RowKit Go.Lib Go.Joins

abbrev uv (n : Nat) : Value := .int .u64 (n : Int)

theorem roundS_app (a b : List Ev) (L : List Nat) : roundU (usS (a ++ b)) L = roundU (usS b) (roundU (usS a) L) := by
  unfold roundU usS
  rw [List.map_append, List.foldl_append]
theorem roundS_one (e : Ev) (L : List Nat) : roundU (usS [e]) L = stepS L e := rfl
theorem inv_put {n : Nat} {L : List Nat} (h : InvS n L) (i : Nat) {x : Nat} (hx : x < top) : InvS n (L.set i x) := ⟨by rw [List.length_set]; exact h.1, set_lt h.2 _ hx⟩

set_option maxRecDepth 100000 in
set_option maxHeartbeats 4000000 in
theorem RFollow_any {G : GD} {gv tv ov sv pv : Value} {tf : Nat → Nat → Value} {rv : Nat → Value} {w : World} (h : GrAt w gv G tv ov sv pv tf rv) (hV : validB G = true) :
    Calls Try.prog 20 #[gv] w fun e W' => ∃ wb, e = .returned (.slice (some ⟨wb, 0, none⟩) G.sorts.length G.sorts.length) ∧ ∃ E F L, Least false G.prods G.sorts.length E ∧ LeastS (evF G.terms.length E G.prods) G.sorts.length F ∧
      LeastS (evW G.terms.length E F G.start G.prods) G.sorts.length L ∧ W'.heap[wb]? = some (.cells (sets L) 30) ∧ w.heap.size ≤ wb ∧ Below w.heap.size w W' := by
  obtain ⟨W1, B, hW1, hB, c0, c1, c2, c3, c4, hG, hb, hsz⟩ := gr_box h
  subst hB
  have kf := RFirst_any hG hV
  have HV := hid hV
  have HG := hid hG
  have HCAP := hid hG.caps
  have hgv := h.eq
  have hs := hG.sorts
  have hp := hG.prods
  subst hgv
  obtain ⟨sa, sc, rfl, hsn, _⟩ := hs
  obtain ⟨pa, pc, rfl, hpn, hp⟩ := hp
  have HP := hid hp
  obtain ⟨n60, s60, p120⟩ := valid_few hV
  obtain ⟨st0, st1⟩ := valid_start hV
  have hneg : ∀ p ∈ G.prods, ∀ k, k < p.rs.length → p.rs.getD k 0 < 0 → (-1 - p.rs.getD k 0).toNat < G.sorts.length := fun p hp k hk hn => by
    obtain ⟨j, hj, rfl⟩ := List.mem_iff_getElem.1 hp
    have := (prodB_sortNat (valid_prod hV hj)).2.2.2 _ (mem_getD (k := k) (by rw [List.getD_eq_getElem?_getD, List.getElem?_eq_getElem hj]; exact hk))
    rw [List.getD_eq_getElem?_getD (l := G.prods), List.getElem?_eq_getElem hj] at this
    simp only [Option.getD_some] at this
    omega
  have HLE : Hid (∀ E F, (∀ x ∈ F, x < top) → LeastS (evW G.terms.length E F G.start G.prods) G.sorts.length (roundsU (usS (evAll G.terms.length E F G.prods)) (G.sorts.length + 1) ((List.replicate G.sorts.length 0).set G.start.toNat (bitN 63)))) :=
    fun E F hF => leastW_rounds (locA hF hneg) (by omega)
  have KE : Hid (∀ W', Below W1.heap.size W1 W' → Calls Try.prog 13 #[.agg #[tv, ov, .slice sa G.sorts.length sc, .slice pa G.prods.length pc, .int .i64 G.start]] W' fun e W'' => ∃ lb L, e = .returned (.slice (some ⟨lb, 0, none⟩) G.sorts.length G.sorts.length) ∧ Least false G.prods G.sorts.length L ∧ W''.heap[lb]? = some (.cells (L.map Value.bool).toArray 4) ∧ W'.heap.size ≤ lb ∧ Below W'.heap.size W' W'') :=
    fun W' hb => REmpty_any (HG.out.mono hb) HV.out
  have KR : Hid (∀ (W' : World) (E : List Bool) (F : List Nat) (eb fb y : Nat) (l : List Int) (lv : Value), Below W1.heap.size W1 W' → W'.heap[eb]? = some (.cells (E.map Value.bool).toArray 4) → W'.heap[fb]? = some (.cells (sets F) 30) → E.length = G.sorts.length → F.length = G.sorts.length → (∀ x ∈ F, x < top) → y < top → IntsAt W' lv l →
      Calls Try.prog 33 #[.agg #[tv, ov, .slice sa G.sorts.length sc, .slice pa G.prods.length pc, .int .i64 G.start], .slice (some ⟨eb, 0, none⟩) G.sorts.length G.sorts.length, .slice (some ⟨fb, 0, none⟩) G.sorts.length G.sorts.length, lv, u64 y] W' fun e W'' => e = .returned (u64 (ofRow G.terms.length E F l y)) ∧ Below W'.heap.size W' W'') :=
    fun W' E F eb fb y l lv hb hE hF hEl hFl hFt hy hl => Rrow_any (HG.out.mono hb) hE hF hEl hFl hFt hy hl
  have ku := hid (fun (a c : Nat) ha hc w => RUnion_any a c ha hc w)
  have HIW : Hid (∀ j, j < G.prods.length → IntsAt W1 (rv j) (G.prods.getD j default).rs) := hG.rights
  clear hp h hG hneg
  have hz1 : w.heap.size < W1.heap.size := by rw [hW1]; simp
  clear hV
  obtain ⟨st, hst⟩ : ∃ st : Nat, G.start = st := ⟨G.start.toNat, by omega⟩
  have hstn : G.start.toNat = st := by omega
  have HST := hid hst
  have hsts : st < G.sorts.length := by omega
  rw [hst] at c4 hW1
  rw [hstn] at HLE
  simp only [hst] at KE KR kf HLE
  rw [hst]
  generalize hns : G.sorts.length = ns at *
  generalize hnp : G.prods.length = np at *
  generalize hnt : G.terms.length = nt at *
  have HNP := hid hnp
  have HNS := hid hns
  have hn0 : ¬ ((ns : Int) = 0) := by omega
  have hn4 : ((ns : Int) == 0) = false := beq_eq_false_iff_ne.2 hn0
  clear hnp hns hnt HG hst hstn
  have t0 : (0 : Int) ≤ (st : Int) := by omega
  have t1 : (st : Int) < (ns : Int) := by omega
  go_enter Try.func20, Try.ntmps20
  go_wp2_with fail
  rw [← hW1]
  clear hW1
  refine kf.mono ?_
  rintro e w1 ⟨fb, rfl, E, F, hE1, hF1, hF2, hF3, hB1⟩
  have HE0 := hid hE1
  have hE0l := hE1.length
  have HF1 := hid hF1
  have d0 := cell_below hB1 c0
  have d1 := cell_below hB1 c1
  have d2 := cell_below hB1 c2
  have d3 := cell_below hB1 c3
  have d4 := cell_below hB1 c4
  clear hF1 hE1
  go_wp2_with fail
  refine (KE.out w1 hB1).mono ?_
  rintro e v1 ⟨eb, E', rfl, hE1, hE2, hE3, hB5⟩
  obtain rfl := HE0.out.same hE1
  have hC1 := hB1.trans (hB5.mono hB1.size)
  have hF4 := heap_keep hB5 hF2
  replace d2 := cell_below hB5 d2
  have km := made_sets ns (by omega)
  have i0 : (0 : Int) ≤ (ns : Int) := by omega
  obtain ⟨w2, hw2⟩ : ∃ w2, w2 = v1.alloc (.cells (sets (List.replicate ns 0)) 30) := ⟨_, rfl⟩
  have hl0 : w2.heap[v1.heap.size]? = some (.cells (sets (List.replicate ns 0)) 30) := by
    rw [hw2]; exact new_block v1 _
  have hB2 : Below v1.heap.size v1 w2 := by rw [hw2]; exact below_al (Below.refl _ _) _
  have hz2 := hC1.size
  have HE4 := hid (heap_keep hB2 hE2)
  have HF4 := hid (heap_keep hB2 hF4)
  have hel : eb < v1.heap.size := (Array.getElem?_eq_some_iff.1 hE2).1
  have hfl : fb < v1.heap.size := (Array.getElem?_eq_some_iff.1 hF4).1
  have hBA := hC1.trans (hB2.mono hz2)
  have HE1 := hid hE1
  have f4 := cell_below hBA c4
  have y0 := cell_sets hl0 (i := st) (by simpa using hsts)
  clear hE1 hE2 hF4 hF2 d0 d1 d3 d4
  go_upto_region 6 with fail
  rw [← hw2]
  clear hw2 km d2
  generalize hlb : v1.heap.size = lb at *
  have hlb1 : W1.heap.size ≤ lb := by omega
  clear hlb
  have hBL := hid hBA
  have HL0 := hid hl0
  clear hl0
  refine region_T 6 (fun w' => w'.cell? ⟨w.heap.size, 4, none⟩ = some (.int .i64 (st : Int))) (by kernel_rfl) f4 (fun inv hHeld => ?_)
  refine anyT_take (i := 0) (oi := { dst := some 22, op := Op.move (Operand.tmp 5), type := 36, pos := "ref.go:102", after := #[], guard := none }) (v := ?_) rfl (by kernel_rfl) (by kernel_rfl) (by kernel_rfl) (by decide) (by decide) (by kernel_rfl) (by kernel_rfl) (fun _ _ _ h => h) (Or.inl ⟨by rfl, ?_⟩) hHeld inv (fun inv => ?_)
  rotate_left
  · intro w hSw
    try dsimp only at hSw
    go_simp
    try with_reducible rfl
  simp only [Act.put, List.setIfInBounds_toArray, List.set_cons_zero, List.set_cons_succ]
  refine anyT_take (i := 1) (oi := { dst := some 23, op := Op.fieldAddr 27 (Operand.tmp 1) 4, type := 0, pos := "ref.go:102", after := #[], guard := none }) (v := ?_) rfl (by kernel_rfl) (by kernel_rfl) (by kernel_rfl) (by decide) (by decide) (by kernel_rfl) (by kernel_rfl) (fun _ _ _ h => h) (Or.inl ⟨by rfl, ?_⟩) hHeld inv (fun inv => ?_)
  rotate_left
  · intro w hSw
    try dsimp only at hSw
    go_simp
    try with_reducible rfl
  simp only [Act.put, List.setIfInBounds_toArray, List.set_cons_zero, List.set_cons_succ]
  refine anyT_take (i := 2) (oi := { dst := some 24, op := Op.load 3 (Operand.tmp 23), type := 3, pos := "ref.go:102", after := #[{ on := 1, ground := Ground.data }], guard := none }) (v := ?_) rfl (by kernel_rfl) (by kernel_rfl) (by kernel_rfl) (by decide) (by decide) (by kernel_rfl) (by kernel_rfl) (fun _ _ _ h => h) (Or.inl ⟨by rfl, ?_⟩) hHeld inv (fun inv => ?_)
  rotate_left
  · intro w hSw
    try dsimp only at hSw
    go_simp
    try with_reducible rfl
  simp only [Act.put, List.setIfInBounds_toArray, List.set_cons_zero, List.set_cons_succ]
  refine anyT_next (i := 3) (o := { dst := some 25, op := Op.buildSlice 64 1 #[(0, Operand.const (Value.int IntKind.i64 63))], type := 64, pos := "ref.go:102", after := #[], guard := none }) (by kernel_rfl) rfl (by decide) inv (fun inv K' hK => ?_)
  go_simp
  have hb5 : Below w2.heap.size w2 (w2.drew.alloc _) := below_al (Below.refl _ w2).drew (.cells #[.int .i64 63] 3)
  refine hK.out _ _ (cell_below hb5 f4) ?_
  clear hK K'
  try simp only [Act.put, List.setIfInBounds_toArray, List.set_cons_zero, List.set_cons_succ]
  refine anyT_next (i := 4) (o := { dst := some 26, op := Op.call { callee := Callee.value (Operand.func 38), args := #[Operand.tmp 25], argTypes := #[64] }, type := 30, pos := "ref.go:102", after := #[{ on := 3, ground := Ground.data }], guard := none }) (by kernel_rfl) rfl (by decide) inv (fun inv K' hK => ?_)
  go_simp
  refine (ROf_one 63 _ _ (by simp)).mono ?_
  rintro e w6 ⟨rfl, hb6⟩
  have hb7 := hb5.trans (hb6.mono hb5.size)
  go_wp2_with fail
  refine hK.out _ _ (cell_below hb7 f4) ?_
  clear hK K'
  try simp only [Act.put, List.setIfInBounds_toArray, List.set_cons_zero, List.set_cons_succ]
  have hl6 := heap_keep hb7 HL0.out
  have u6 := unfrozen_of_block hl6 st
  have y6 := cell_below hb7 y0
  have HSET := hid (sets_put hl6 (so := st) (bitN 63))
  have HFF : Hid (Far (fun k => k = lb) w2 (w6.setCell ⟨lb, st, none⟩ (u64 (bitN 63)))) := Far.set (S := fun k => k = lb) (p := ⟨lb, st, none⟩) (Far.ofBelow hb7) rfl _
  have HI0 : Hid (InvS ns ((List.replicate ns 0).set st (bitN 63))) := inv_put (invS_zero ns) st (by decide)
  clear hl6 y0
  refine anyT_take (i := 5) (oi := { dst := some 27, op := Op.indexAddr 36 (Operand.tmp 22) (Operand.tmp 24), type := 0, pos := "ref.go:102", after := #[{ on := 0, ground := Ground.data }, { on := 2, ground := Ground.data }, { on := 0, ground := Ground.phase }, { on := 1, ground := Ground.phase }, { on := 2, ground := Ground.phase }, { on := 3, ground := Ground.phase }, { on := 4, ground := Ground.phase }], guard := none }) (v := ?_) rfl (by kernel_rfl) (by kernel_rfl) (by kernel_rfl) (by decide) (by decide) (by kernel_rfl) (by kernel_rfl) (fun _ _ _ h => h) (Or.inl ⟨by rfl, ?_⟩) (cell_below hb7 f4) inv (fun inv => ?_)
  rotate_left
  · intro w hSw
    try dsimp only at hSw
    go_simp
    try with_reducible rfl
  simp only [Act.put, List.setIfInBounds_toArray, List.set_cons_zero, List.set_cons_succ]
  refine anyT_one (i := 6) (o := { dst := none, op := Op.store 30 (Operand.tmp 27) (Operand.tmp 26), type := 0, pos := "ref.go:102", after := #[{ on := 5, ground := Ground.data }, { on := 4, ground := Ground.data }, { on := 4, ground := Ground.chain }, { on := 0, ground := Ground.phase }, { on := 1, ground := Ground.phase }, { on := 2, ground := Ground.phase }, { on := 3, ground := Ground.phase }, { on := 4, ground := Ground.phase }], guard := none }) (by kernel_rfl) rfl (fun K' hK => ?_)
  go_simp
  refine hK.out _ _ (fun h => absurd h (by decide)) ?_
  clear hK K'
  try simp only [Act.put, List.setIfInBounds_toArray, List.set_cons_zero, List.set_cons_succ]
  refine anyT_done (by kernel_rfl) ?_ _
  clear y6 u6 hb7 hb6 hb5 f4
  have HFW : Hid (Below W1.heap.size W1 (w6.setCell ⟨lb, st, none⟩ (u64 (bitN 63)))) := hBL.out.trans (HFF.out.toBelow hBL.out.size (by rintro k rfl; exact hlb1))
  have d2 := cell_below HFW.out c2
  have d3 := cell_below HFW.out c3
  go_wp2_with fail
  generalize hL00 : (List.replicate ns 0).set st (bitN 63) = L00 at *
  clear hL00
  go_loopw [6] (fun i wr => ∃ r : Nat, r ≤ ns + 1 ∧ i = .int .i64 (r : Int) ∧ wr.heap[lb]? = some (.cells (sets (roundsU (usS (evAll nt E F G.prods)) r L00)) 30) ∧ InvS ns (roundsU (usS (evAll nt E F G.prods)) r L00) ∧ Far (fun k => k = lb) w2 wr) (fun i _ => ns + 1 - (RowKit.intOf i).toNat)
  case atStart => exact ⟨0, by omega, rfl, HSET.out, HI0.out, HFF.out⟩
  case round =>
    clear d2 d3
    obtain ⟨r, hr, rfl, hl1, hI1, hF1⟩ := hrel
    have hBr : Below W1.heap.size W1 wr := hBL.out.trans (hF1.toBelow hBL.out.size (by rintro k rfl; exact hlb1))
    have d2 := cell_below hBr c2
    have d3 := cell_below hBr c3
    by_cases hrn : r ≤ ns
    · have r1 : (r : Int) ≤ (ns : Int) := by omega
      have HF1' := hid hF1
      have HI := hid hI1
      clear hI1 hF1
      generalize hLr : roundsU (usS (evAll nt E F G.prods)) r L00 = L0 at *
      have HLR := hid hLr
      clear hLr
      go_wp2_with fail
      go_loopw [7] (fun i wr => ∃ j : Nat, j ≤ np ∧ i = .int .i64 (j : Int) ∧ wr.heap[lb]? = some (.cells (sets (roundU (usS (evAll nt E F (G.prods.take j))) L0)) 30) ∧ InvS ns (roundU (usS (evAll nt E F (G.prods.take j))) L0) ∧ Far (fun k => k = lb) w2 wr) (fun i _ => np - (RowKit.intOf i).toNat)
      case atStart => exact ⟨0, by omega, rfl, hl1, HI.out, HF1'.out⟩
      case round =>
        clear d2 d3 hl1
        obtain ⟨j, hj, rfl, hl1, hI2, hF2⟩ := hrel
        have hBj : Below W1.heap.size W1 wr := hBL.out.trans (hF2.toBelow hBL.out.size (by rintro k rfl; exact hlb1))
        have d2 := cell_below hBj c2
        have d3 := cell_below hBj c3
        by_cases hlt : j < np
        · obtain ⟨b, off, rfl, hc⟩ := HP.out (by omega)
          obtain ⟨x0, x1, x2, x3⟩ := hc j hlt
          obtain ⟨v1, v2, v3, v4⟩ := prodB_sortNat (valid_prod HV.out (k := j) (by have := HNP.out; omega))
          have hIW := HIW.out j hlt
          have hcap := HCAP.out j (by have := HNP.out; omega)
          have HSN := hid (evAll_snoc (nt := nt) (E := E) (F := F) (ps := G.prods) (j := j) (by have := HNP.out; omega))
          clear hc
          generalize hM : roundU (usS (evAll nt E F (G.prods.take j))) L0 = M at *
          have HM := hid hM
          clear hM
          generalize G.prods.getD j default = P at *
          obtain ⟨so, hso⟩ : ∃ so : Nat, P.sort = so := ⟨P.sort.toNat, by omega⟩
          rw [hso] at x1
          have hto : P.sort.toNat = so := by omega
          have HTO := hid hto
          have hsn' : so < ns := by have := HNS.out; omega
          replace x0 := cell_below hBj x0
          replace x1 := cell_below hBj x1
          replace x2 := cell_below hBj x2
          replace x3 := cell_below hBj x3
          obtain ⟨⟨ra, rc, hrv, hrn2, hrc⟩, hri⟩ := hIW
          have hcap := hcap _ _ _ hrv
          rw [hrv] at x2
          have j0 : (0 : Int) ≤ (j : Int) := by omega
          have j1 : (j : Int) < (np : Int) := by omega
          have s0 : (0 : Int) ≤ (so : Int) := by omega
          have s1 : (so : Int) < (ns : Int) := by omega
          obtain ⟨w3, hw3⟩ : ∃ w3, w3 = wr.alloc (.cells #[.string P.lab, .int .i64 (so : Int), .slice ra P.rs.length rc, .int .i64 P.cls] 41) := ⟨_, rfl⟩
          have hb3 : Below wr.heap.size wr w3 := by rw [hw3]; exact below_al (Below.refl _ _) _
          have p1 : w3.cell? ⟨wr.heap.size, 1, none⟩ = some (.int .i64 (so : Int)) := by rw [hw3, World.cell?_alloc_mark]; rfl
          have p2 : w3.cell? ⟨wr.heap.size, 2, none⟩ = some (.slice ra P.rs.length rc) := by rw [hw3, World.cell?_alloc_mark]; rfl
          have HL3 := hid (heap_keep hb3 hl1)
          have hlbw : lb < wr.heap.size := (Array.getElem?_eq_some_iff.1 hl1).1
          have HF3 : Hid (Far (fun k => k = lb) w2 w3) := hF2.trans (Far.ofBelow hb3)
          have HI2 := hid hI2
          have HRC := hid hrc
          have HRI := hid hri
          have HV4 := hid v4
          clear hrc hri hrv v1 v2 v3 v4 hso hto hl1 hI2 hF2
          generalize hrl : P.rs.length = rl at *
          have HRL := hid hrl
          clear hrl
          go_wp2_with fail
          rw [← hw3]
          clear hw3 d2 d3 x0 x1 x2 x3
          generalize hpb : wr.heap.size = pb at *
          have nP : ¬ (pb = lb) := by omega
          clear hpb
          go_loopw [9] (fun i wr => ∃ q : Nat, q ≤ rl ∧ i = .int .i64 (q : Int) ∧ wr.heap[lb]? = some (.cells (sets (roundU (usS (evUpto nt E F P q)) M)) 30) ∧ InvS ns (roundU (usS (evUpto nt E F P q)) M) ∧ Far (fun k => k = lb) w3 wr) (fun i _ => rl - (RowKit.intOf i).toNat)
          case atStart => exact ⟨0, by omega, rfl, HL3.out, HI2.out, Far.refl _ _⟩
          case round =>
            obtain ⟨q, hq, rfl, hl1, hIq, hFq⟩ := hrel
            have p1q := hFq.cell p1 nP
            have p2q := hFq.cell p2 nP
            by_cases hql : q < rl
            · obtain ⟨rb, ro, rfl, hcc⟩ := HRC.out (by have := HRL.out; omega)
              have hBq : Below W1.heap.size W1 wr := hBL.out.trans ((HF3.out.trans hFq).toBelow hBL.out.size (by rintro k rfl; exact hlb1))
              have g3 := cell_below hBq (hcc q (by have := HRL.out; omega))
              have hdrop := hid (cut_at (c := rc) (fun i hi => cell_below hBq (hcc i (by have := HRL.out; omega))) HRL.out HRI.out hrn2 hcap (q + 1))
              have hsv := hid (HV4.out (P.rs.getD q 0) (mem_getD (by have := HRL.out; omega)))
              have hsr := hid (HRI.out (P.rs.getD q 0) (mem_getD (by have := HRL.out; omega)))
              have HY := hid (evUpto_yes (nt := nt) (E := E) (F := F) (p := P) (k := q))
              have HN := hid (evUpto_no (nt := nt) (E := E) (F := F) (p := P) (k := q))
              have q0 : (0 : Int) ≤ (q : Int) := by omega
              have q1 : (q : Int) < (rl : Int) := by omega
              clear hcc
              generalize P.rs.getD q 0 = s at *
              by_cases hs0 : 0 ≤ s
              · have HX := hid (And.intro hl1 (And.intro hIq hFq))
                have HNN := hid (HN.out (by omega))
                clear hl1 hIq hFq
                have hs1 : ¬ (s < 0) := by omega
                go_wp2
                exact ⟨⟨q + 1, by omega, by go_num, by rw [HNN.out]; exact HX.out.1, by rw [HNN.out]; exact HX.out.2.1, HX.out.2.2⟩, by simp [RowKit.intOf]; omega⟩
              · have hs1 : s < 0 := by omega
                obtain ⟨t, ht⟩ : ∃ t : Nat, -1 - s = (t : Int) := ⟨(-1 - s).toNat, by omega⟩
                have htn : t < ns := by have := hsv.out; have := HNS.out; omega
                have i5 : IntKind.i64.wrap (-1 - s) = (t : Int) := by have := hsr.out; rw [IntKind.wrap_i64]; omega
                have i6 : IntKind.i64.wrap ((q : Int) + 1) = (q : Int) + 1 := by rw [IntKind.wrap_i64]; omega
                have i7 : (0 : Int) ≤ (t : Int) := by omega
                have i8 : (t : Int) < (ns : Int) := by omega
                have HYY := HY.out hs1
                rw [HTO.out, show (-1 - s).toNat = t by omega] at HYY
                have kcut := run_cut rb ro rl rc q (by omega)
                generalize hLq : roundU (usS (evUpto nt E F P q)) M = Lq at *
                have hyt := getD_lt hIq.2 so
                have hzt := getD_lt hIq.2 t
                have hxt := ofRow_lt nt E HF1.out.2.2 (P.rs.drop (q + 1)) hyt
                have HSTEP : Hid (roundU (usS (evUpto nt E F P (q + 1))) M = Lq.set t (Lq.getD t 0 ||| ofRow nt E F (P.rs.drop (q + 1)) (Lq.getD so 0))) := by
                  rw [HYY, roundS_app, roundS_one, hLq]; rfl
                have HIN : Hid (InvS ns (Lq.set t (Lq.getD t 0 ||| ofRow nt E F (P.rs.drop (q + 1)) (Lq.getD so 0)))) := inv_put hIq t (or_lt hzt hxt)
                have e1 := cell_sets hl1 (i := so) (by have := hIq.1; omega)
                have e2 := cell_sets hl1 (i := t) (by have := hIq.1; omega)
                have b0 := cell_below hBq c0
                have b1 := cell_below hBq c1
                have b2 := cell_below hBq c2
                have b3 := cell_below hBq c3
                have b4 := cell_below hBq c4
                have HFW : Hid (Far (fun k => k = lb) w2 wr) := HF3.out.trans hFq
                have hbd : Below wr.heap.size wr wr.drew := (Below.refl _ _).drew
                have nE : ¬ (eb = lb) := by omega
                have nF : ¬ (fb = lb) := by omega
                have hEd : wr.drew.heap[eb]? = some (.cells (E.map Value.bool).toArray 4) := heap_keep hbd (HFW.out.heap HE4.out nE)
                have hFd : wr.drew.heap[fb]? = some (.cells (sets F) 30) := heap_keep hbd (HFW.out.heap HF4.out nF)
                have hBd : Below W1.heap.size W1 wr.drew := hBq.drew
                have hId : IntsAt wr.drew (cutV rb ro rl rc (q + 1)) (P.rs.drop (q + 1)) := hdrop.out.mono hbd
                have hEl : E.length = ns := HE1.out.length
                have hFl : F.length = ns := HF1.out.length
                have kr0 := KR.out wr.drew E F eb fb (Lq.getD so 0) (P.rs.drop (q + 1)) (cutV rb ro rl rc (q + 1)) hBd hEd hFd hEl hFl HF1.out.2.2 hyt hId
                have kr := hid kr0
                have HBD := hid hbd
                clear kr0 hEd hFd hBd hId hEl hFl hbd
                have kU0 := ku.out (Lq.getD t 0) (ofRow nt E F (P.rs.drop (q + 1)) (Lq.getD so 0)) hzt hxt
                have kU := hid kU0
                clear kU0
                have HLQ := hid hl1
                have HFQ := hid hFq
                have ht2 := hid ht
                clear HYY hLq hyt hzt hxt hl1 hFq hIq hsv hsr HY HN hdrop ht HFW
                generalize ofRow nt E F (P.rs.drop (q + 1)) (Lq.getD so 0) = x at *
                generalize Lq.getD so 0 = y at *
                generalize Lq.getD t 0 = z at *
                generalize cutV rb ro rl rc (q + 1) = cv at *
                go_wp2_with fail
                refine region_T 22 (fun w' => w'.cell? ⟨pb, 1, none⟩ = some (.int .i64 (so : Int)) ∧ w'.cell? ⟨pb, 2, none⟩ = some (.slice (some ⟨rb, ro, none⟩) rl rc) ∧ w'.cell? ⟨w.heap.size, 0, none⟩ = some tv ∧ w'.cell? ⟨w.heap.size, 1, none⟩ = some ov ∧ w'.cell? ⟨w.heap.size, 2, none⟩ = some (.slice sa ns sc) ∧ w'.cell? ⟨w.heap.size, 3, none⟩ = some (.slice (some ⟨b, off, none⟩) np pc) ∧ w'.cell? ⟨w.heap.size, 4, none⟩ = some (.int .i64 (st : Int)) ∧ w'.cell? ⟨lb, so, none⟩ = some (uv y) ∧ w'.cell? ⟨lb, t, none⟩ = some (uv z)) (by kernel_rfl) ⟨p1q, p2q, b0, b1, b2, b3, b4, e1, e2⟩ (fun inv hHeld => ?_)
                refine anyT_take (i := 0) (oi := { dst := some 66, op := Op.move (Operand.tmp 5), type := 36, pos := "ref.go:109", after := #[], guard := none }) (v := ?_) rfl (by kernel_rfl) (by kernel_rfl) (by kernel_rfl) (by decide) (by decide) (by kernel_rfl) (by kernel_rfl) (fun _ _ _ h => h) (Or.inl ⟨by rfl, ?_⟩) hHeld inv (fun inv => ?_)
                rotate_left
                · intro w hSw
                  try dsimp only at hSw
                  go_simp
                  try with_reducible rfl
                simp only [Act.put, List.setIfInBounds_toArray, List.set_cons_zero, List.set_cons_succ]
                refine anyT_take (i := 1) (oi := { dst := some 67, op := Op.move (Operand.tmp 10), type := 42, pos := "ref.go:109", after := #[], guard := none }) (v := ?_) rfl (by kernel_rfl) (by kernel_rfl) (by kernel_rfl) (by decide) (by decide) (by kernel_rfl) (by kernel_rfl) (fun _ _ _ h => h) (Or.inl ⟨by rfl, ?_⟩) hHeld inv (fun inv => ?_)
                rotate_left
                · intro w hSw
                  try dsimp only at hSw
                  go_simp
                  try with_reducible rfl
                simp only [Act.put, List.setIfInBounds_toArray, List.set_cons_zero, List.set_cons_succ]
                refine anyT_take (i := 2) (oi := { dst := some 68, op := Op.move (Operand.tmp 5), type := 36, pos := "ref.go:109", after := #[], guard := none }) (v := ?_) rfl (by kernel_rfl) (by kernel_rfl) (by kernel_rfl) (by decide) (by decide) (by kernel_rfl) (by kernel_rfl) (fun _ _ _ h => h) (Or.inl ⟨by rfl, ?_⟩) hHeld inv (fun inv => ?_)
                rotate_left
                · intro w hSw
                  try dsimp only at hSw
                  go_simp
                  try with_reducible rfl
                simp only [Act.put, List.setIfInBounds_toArray, List.set_cons_zero, List.set_cons_succ]
                refine anyT_take (i := 3) (oi := { dst := some 69, op := Op.move (Operand.tmp 10), type := 42, pos := "ref.go:109", after := #[], guard := none }) (v := ?_) rfl (by kernel_rfl) (by kernel_rfl) (by kernel_rfl) (by decide) (by decide) (by kernel_rfl) (by kernel_rfl) (fun _ _ _ h => h) (Or.inl ⟨by rfl, ?_⟩) hHeld inv (fun inv => ?_)
                rotate_left
                · intro w hSw
                  try dsimp only at hSw
                  go_simp
                  try with_reducible rfl
                simp only [Act.put, List.setIfInBounds_toArray, List.set_cons_zero, List.set_cons_succ]
                refine anyT_take (i := 4) (oi := { dst := some 70, op := Op.indexAddr 36 (Operand.tmp 68) (Operand.tmp 69), type := 0, pos := "ref.go:109", after := #[{ on := 2, ground := Ground.data }, { on := 3, ground := Ground.data }], guard := none }) (v := ?_) rfl (by kernel_rfl) (by kernel_rfl) (by kernel_rfl) (by decide) (by decide) (by kernel_rfl) (by kernel_rfl) (fun _ _ _ h => h) (Or.inl ⟨by rfl, ?_⟩) hHeld inv (fun inv => ?_)
                rotate_left
                · intro w hSw
                  try dsimp only at hSw
                  go_simp
                  try with_reducible rfl
                simp only [Act.put, List.setIfInBounds_toArray, List.set_cons_zero, List.set_cons_succ]
                refine anyT_take (i := 5) (oi := { dst := some 71, op := Op.load 30 (Operand.tmp 70), type := 30, pos := "ref.go:109", after := #[{ on := 4, ground := Ground.data }], guard := none }) (v := ?_) rfl (by kernel_rfl) (by kernel_rfl) (by kernel_rfl) (by decide) (by decide) (by kernel_rfl) (by kernel_rfl) (fun _ _ _ h => h) (Or.inl ⟨by rfl, ?_⟩) hHeld inv (fun inv => ?_)
                rotate_left
                · intro w hSw
                  try dsimp only at hSw
                  go_simp
                  try with_reducible rfl
                simp only [Act.put, List.setIfInBounds_toArray, List.set_cons_zero, List.set_cons_succ]
                refine anyT_take (i := 6) (oi := { dst := some 72, op := Op.load 27 (Operand.tmp 1), type := 27, pos := "ref.go:109", after := #[], guard := none }) (v := ?_) rfl (by kernel_rfl) (by kernel_rfl) (by kernel_rfl) (by decide) (by decide) (by kernel_rfl) (by kernel_rfl) (fun _ _ _ h => h) (Or.inl ⟨by rfl, ?_⟩) hHeld inv (fun inv => ?_)
                rotate_left
                · intro w hSw
                  try dsimp only at hSw
                  go_simp
                  try with_reducible rfl
                simp only [Act.put, List.setIfInBounds_toArray, List.set_cons_zero, List.set_cons_succ]
                refine anyT_take (i := 7) (oi := { dst := some 73, op := Op.move (Operand.tmp 4), type := 33, pos := "ref.go:109", after := #[], guard := none }) (v := ?_) rfl (by kernel_rfl) (by kernel_rfl) (by kernel_rfl) (by decide) (by decide) (by kernel_rfl) (by kernel_rfl) (fun _ _ _ h => h) (Or.inl ⟨by rfl, ?_⟩) hHeld inv (fun inv => ?_)
                rotate_left
                · intro w hSw
                  try dsimp only at hSw
                  go_simp
                  try with_reducible rfl
                simp only [Act.put, List.setIfInBounds_toArray, List.set_cons_zero, List.set_cons_succ]
                refine anyT_take (i := 8) (oi := { dst := some 74, op := Op.move (Operand.tmp 3), type := 36, pos := "ref.go:109", after := #[], guard := none }) (v := ?_) rfl (by kernel_rfl) (by kernel_rfl) (by kernel_rfl) (by decide) (by decide) (by kernel_rfl) (by kernel_rfl) (fun _ _ _ h => h) (Or.inl ⟨by rfl, ?_⟩) hHeld inv (fun inv => ?_)
                rotate_left
                · intro w hSw
                  try dsimp only at hSw
                  go_simp
                  try with_reducible rfl
                simp only [Act.put, List.setIfInBounds_toArray, List.set_cons_zero, List.set_cons_succ]
                refine anyT_take (i := 9) (oi := { dst := some 75, op := Op.fieldAddr 41 (Operand.tmp 8) 2, type := 0, pos := "ref.go:109", after := #[], guard := none }) (v := ?_) rfl (by kernel_rfl) (by kernel_rfl) (by kernel_rfl) (by decide) (by decide) (by kernel_rfl) (by kernel_rfl) (fun _ _ _ h => h) (Or.inl ⟨by rfl, ?_⟩) hHeld inv (fun inv => ?_)
                rotate_left
                · intro w hSw
                  try dsimp only at hSw
                  go_simp
                  try with_reducible rfl
                simp only [Act.put, List.setIfInBounds_toArray, List.set_cons_zero, List.set_cons_succ]
                refine anyT_take (i := 10) (oi := { dst := some 76, op := Op.load 28 (Operand.tmp 75), type := 28, pos := "ref.go:109", after := #[{ on := 9, ground := Ground.data }], guard := none }) (v := ?_) rfl (by kernel_rfl) (by kernel_rfl) (by kernel_rfl) (by decide) (by decide) (by kernel_rfl) (by kernel_rfl) (fun _ _ _ h => h) (Or.inl ⟨by rfl, ?_⟩) hHeld inv (fun inv => ?_)
                rotate_left
                · intro w hSw
                  try dsimp only at hSw
                  go_simp
                  try with_reducible rfl
                simp only [Act.put, List.setIfInBounds_toArray, List.set_cons_zero, List.set_cons_succ]
                refine anyT_take (i := 11) (oi := { dst := some 77, op := Op.move (Operand.tmp 9), type := 3, pos := "ref.go:109", after := #[], guard := none }) (v := ?_) rfl (by kernel_rfl) (by kernel_rfl) (by kernel_rfl) (by decide) (by decide) (by kernel_rfl) (by kernel_rfl) (fun _ _ _ h => h) (Or.inl ⟨by rfl, ?_⟩) hHeld inv (fun inv => ?_)
                rotate_left
                · intro w hSw
                  try dsimp only at hSw
                  go_simp
                  try with_reducible rfl
                simp only [Act.put, List.setIfInBounds_toArray, List.set_cons_zero, List.set_cons_succ]
                refine anyT_take (i := 12) (oi := { dst := some 78, op := Op.binOp BinOp.add 3 (Operand.tmp 77) (Operand.const (Value.int IntKind.i64 1)) 3, type := 3, pos := "ref.go:109", after := #[{ on := 11, ground := Ground.data }], guard := none }) (v := ?_) rfl (by kernel_rfl) (by kernel_rfl) (by kernel_rfl) (by decide) (by decide) (by kernel_rfl) (by kernel_rfl) (fun _ _ _ h => h) (Or.inl ⟨by rfl, ?_⟩) hHeld inv (fun inv => ?_)
                rotate_left
                · intro w hSw
                  try dsimp only at hSw
                  go_simp
                  try with_reducible rfl
                simp only [Act.put, List.setIfInBounds_toArray, List.set_cons_zero, List.set_cons_succ]
                refine anyT_take (i := 13) (oi := { dst := some 79, op := Op.slice 28 (Operand.tmp 76) (some (Operand.tmp 78)) none none, type := 28, pos := "ref.go:109", after := #[{ on := 10, ground := Ground.data }, { on := 12, ground := Ground.data }], guard := none }) (v := ?_) rfl (by kernel_rfl) (by kernel_rfl) (by kernel_rfl) (by decide) (by decide) (by kernel_rfl) (by kernel_rfl) (fun _ _ _ h => h) (Or.inl ⟨by rfl, ?_⟩) hHeld inv (fun inv => ?_)
                rotate_left
                · intro w hSw
                  try dsimp only at hSw
                  go_simp
                  try with_reducible rfl
                simp only [Act.put, List.setIfInBounds_toArray, List.set_cons_zero, List.set_cons_succ]
                refine anyT_take (i := 14) (oi := { dst := some 80, op := Op.move (Operand.tmp 5), type := 36, pos := "ref.go:109", after := #[], guard := none }) (v := ?_) rfl (by kernel_rfl) (by kernel_rfl) (by kernel_rfl) (by decide) (by decide) (by kernel_rfl) (by kernel_rfl) (fun _ _ _ h => h) (Or.inl ⟨by rfl, ?_⟩) hHeld inv (fun inv => ?_)
                rotate_left
                · intro w hSw
                  try dsimp only at hSw
                  go_simp
                  try with_reducible rfl
                simp only [Act.put, List.setIfInBounds_toArray, List.set_cons_zero, List.set_cons_succ]
                refine anyT_take (i := 15) (oi := { dst := some 81, op := Op.fieldAddr 41 (Operand.tmp 8) 1, type := 0, pos := "ref.go:109", after := #[], guard := none }) (v := ?_) rfl (by kernel_rfl) (by kernel_rfl) (by kernel_rfl) (by decide) (by decide) (by kernel_rfl) (by kernel_rfl) (fun _ _ _ h => h) (Or.inl ⟨by rfl, ?_⟩) hHeld inv (fun inv => ?_)
                rotate_left
                · intro w hSw
                  try dsimp only at hSw
                  go_simp
                  try with_reducible rfl
                simp only [Act.put, List.setIfInBounds_toArray, List.set_cons_zero, List.set_cons_succ]
                refine anyT_take (i := 16) (oi := { dst := some 82, op := Op.load 3 (Operand.tmp 81), type := 3, pos := "ref.go:109", after := #[{ on := 15, ground := Ground.data }], guard := none }) (v := ?_) rfl (by kernel_rfl) (by kernel_rfl) (by kernel_rfl) (by decide) (by decide) (by kernel_rfl) (by kernel_rfl) (fun _ _ _ h => h) (Or.inl ⟨by rfl, ?_⟩) hHeld inv (fun inv => ?_)
                rotate_left
                · intro w hSw
                  try dsimp only at hSw
                  go_simp
                  try with_reducible rfl
                simp only [Act.put, List.setIfInBounds_toArray, List.set_cons_zero, List.set_cons_succ]
                refine anyT_take (i := 17) (oi := { dst := some 83, op := Op.indexAddr 36 (Operand.tmp 80) (Operand.tmp 82), type := 0, pos := "ref.go:109", after := #[{ on := 14, ground := Ground.data }, { on := 16, ground := Ground.data }], guard := none }) (v := ?_) rfl (by kernel_rfl) (by kernel_rfl) (by kernel_rfl) (by decide) (by decide) (by kernel_rfl) (by kernel_rfl) (fun _ _ _ h => h) (Or.inl ⟨by rfl, ?_⟩) hHeld inv (fun inv => ?_)
                rotate_left
                · intro w hSw
                  try dsimp only at hSw
                  go_simp
                  try with_reducible rfl
                simp only [Act.put, List.setIfInBounds_toArray, List.set_cons_zero, List.set_cons_succ]
                refine anyT_take (i := 18) (oi := { dst := some 84, op := Op.load 30 (Operand.tmp 83), type := 30, pos := "ref.go:109", after := #[{ on := 17, ground := Ground.data }], guard := none }) (v := ?_) rfl (by kernel_rfl) (by kernel_rfl) (by kernel_rfl) (by decide) (by decide) (by kernel_rfl) (by kernel_rfl) (fun _ _ _ h => h) (Or.inl ⟨by rfl, ?_⟩) hHeld inv (fun inv => ?_)
                rotate_left
                · intro w hSw
                  try dsimp only at hSw
                  go_simp
                  try with_reducible rfl
                simp only [Act.put, List.setIfInBounds_toArray, List.set_cons_zero, List.set_cons_succ]
                refine anyT_next (i := 19) (o := { dst := some 85, op := Op.call { callee := Callee.value (Operand.func 33), args := #[Operand.tmp 72, Operand.tmp 73, Operand.tmp 74, Operand.tmp 79, Operand.tmp 84], argTypes := #[27, 33, 36, 28, 30] }, type := 30, pos := "ref.go:109", after := #[{ on := 6, ground := Ground.data }, { on := 7, ground := Ground.data }, { on := 8, ground := Ground.data }, { on := 13, ground := Ground.data }, { on := 18, ground := Ground.data }], guard := none }) (by kernel_rfl) rfl (by decide) inv (fun inv K' hK => ?_)
                go_simp
                refine kr.out.mono ?_
                rintro e w5 ⟨rfl, hb5'⟩
                have hb5 : Below wr.heap.size wr w5 := HBD.out.trans hb5'
                clear hb5'
                have hd : w5.cell? ⟨pb, 1, none⟩ = some (.int .i64 (so : Int)) ∧ w5.cell? ⟨pb, 2, none⟩ = some (.slice (some ⟨rb, ro, none⟩) rl rc) ∧ w5.cell? ⟨w.heap.size, 0, none⟩ = some tv ∧ w5.cell? ⟨w.heap.size, 1, none⟩ = some ov ∧ w5.cell? ⟨w.heap.size, 2, none⟩ = some (.slice sa ns sc) ∧ w5.cell? ⟨w.heap.size, 3, none⟩ = some (.slice (some ⟨b, off, none⟩) np pc) ∧ w5.cell? ⟨w.heap.size, 4, none⟩ = some (.int .i64 (st : Int)) ∧ w5.cell? ⟨lb, so, none⟩ = some (uv y) ∧ w5.cell? ⟨lb, t, none⟩ = some (uv z) := ⟨cell_below hb5 p1q, cell_below hb5 p2q, cell_below hb5 b0, cell_below hb5 b1, cell_below hb5 b2, cell_below hb5 b3, cell_below hb5 b4, cell_below hb5 e1, cell_below hb5 e2⟩
                go_wp2_with fail
                refine hK.out _ _ hd ?_
                clear hK K'
                try simp only [Act.put, List.setIfInBounds_toArray, List.set_cons_zero, List.set_cons_succ]
                refine anyT_next (i := 20) (o := { dst := some 86, op := Op.call { callee := Callee.value (Operand.func 32), args := #[Operand.tmp 71, Operand.tmp 85], argTypes := #[30, 30] }, type := 30, pos := "ref.go:109", after := #[{ on := 5, ground := Ground.data }, { on := 19, ground := Ground.data }, { on := 19, ground := Ground.chain }], guard := none }) (by kernel_rfl) rfl (by decide) inv (fun inv K' hK => ?_)
                go_simp
                refine (kU.out _).mono ?_
                rintro e w6 ⟨rfl, hb6⟩
                have hb7 := hb5.trans (hb6.mono hb5.size)
                have hd6 : w6.cell? ⟨pb, 1, none⟩ = some (.int .i64 (so : Int)) ∧ w6.cell? ⟨pb, 2, none⟩ = some (.slice (some ⟨rb, ro, none⟩) rl rc) ∧ w6.cell? ⟨w.heap.size, 0, none⟩ = some tv ∧ w6.cell? ⟨w.heap.size, 1, none⟩ = some ov ∧ w6.cell? ⟨w.heap.size, 2, none⟩ = some (.slice sa ns sc) ∧ w6.cell? ⟨w.heap.size, 3, none⟩ = some (.slice (some ⟨b, off, none⟩) np pc) ∧ w6.cell? ⟨w.heap.size, 4, none⟩ = some (.int .i64 (st : Int)) ∧ w6.cell? ⟨lb, so, none⟩ = some (uv y) ∧ w6.cell? ⟨lb, t, none⟩ = some (uv z) := ⟨cell_below hb7 p1q, cell_below hb7 p2q, cell_below hb7 b0, cell_below hb7 b1, cell_below hb7 b2, cell_below hb7 b3, cell_below hb7 b4, cell_below hb7 e1, cell_below hb7 e2⟩
                go_wp2_with fail
                refine hK.out _ _ hd6 ?_
                clear hK K'
                try simp only [Act.put, List.setIfInBounds_toArray, List.set_cons_zero, List.set_cons_succ]
                have hl6 := heap_keep hb7 HLQ.out
                have u6 := unfrozen_of_block hl6 t
                have y6 := hd6.2.2.2.2.2.2.2.2
                have HSET := hid (sets_put hl6 (so := t) (z ||| x))
                have HFF2 : Hid (Far (fun k => k = lb) w3 (w6.setCell ⟨lb, t, none⟩ (uv (z ||| x)))) := Far.set (p := ⟨lb, t, none⟩) (HFQ.out.trans (Far.ofBelow hb7)) rfl _
                clear hl6
                refine anyT_take (i := 21) (oi := { dst := some 87, op := Op.indexAddr 36 (Operand.tmp 66) (Operand.tmp 67), type := 0, pos := "ref.go:109", after := #[{ on := 0, ground := Ground.data }, { on := 1, ground := Ground.data }, { on := 0, ground := Ground.phase }, { on := 1, ground := Ground.phase }, { on := 2, ground := Ground.phase }, { on := 3, ground := Ground.phase }, { on := 4, ground := Ground.phase }, { on := 5, ground := Ground.phase }, { on := 6, ground := Ground.phase }, { on := 7, ground := Ground.phase }, { on := 8, ground := Ground.phase }, { on := 9, ground := Ground.phase }, { on := 10, ground := Ground.phase }, { on := 11, ground := Ground.phase }, { on := 12, ground := Ground.phase }, { on := 13, ground := Ground.phase }, { on := 14, ground := Ground.phase }, { on := 15, ground := Ground.phase }, { on := 16, ground := Ground.phase }, { on := 17, ground := Ground.phase }, { on := 18, ground := Ground.phase }, { on := 19, ground := Ground.phase }, { on := 20, ground := Ground.phase }], guard := none }) (v := ?_) rfl (by kernel_rfl) (by kernel_rfl) (by kernel_rfl) (by decide) (by decide) (by kernel_rfl) (by kernel_rfl) (fun _ _ _ h => h) (Or.inl ⟨by rfl, ?_⟩) hd6 inv (fun inv => ?_)
                rotate_left
                · intro w hSw
                  try dsimp only at hSw
                  go_simp
                  try with_reducible rfl
                simp only [Act.put, List.setIfInBounds_toArray, List.set_cons_zero, List.set_cons_succ]
                refine anyT_one (i := 22) (o := { dst := none, op := Op.store 30 (Operand.tmp 87) (Operand.tmp 86), type := 0, pos := "ref.go:109", after := #[{ on := 21, ground := Ground.data }, { on := 20, ground := Ground.data }, { on := 20, ground := Ground.chain }, { on := 0, ground := Ground.phase }, { on := 1, ground := Ground.phase }, { on := 2, ground := Ground.phase }, { on := 3, ground := Ground.phase }, { on := 4, ground := Ground.phase }, { on := 5, ground := Ground.phase }, { on := 6, ground := Ground.phase }, { on := 7, ground := Ground.phase }, { on := 8, ground := Ground.phase }, { on := 9, ground := Ground.phase }, { on := 10, ground := Ground.phase }, { on := 11, ground := Ground.phase }, { on := 12, ground := Ground.phase }, { on := 13, ground := Ground.phase }, { on := 14, ground := Ground.phase }, { on := 15, ground := Ground.phase }, { on := 16, ground := Ground.phase }, { on := 17, ground := Ground.phase }, { on := 18, ground := Ground.phase }, { on := 19, ground := Ground.phase }, { on := 20, ground := Ground.phase }], guard := none }) (by kernel_rfl) rfl (fun K' hK => ?_)
                go_simp
                refine hK.out _ _ (fun h => absurd h (by decide)) ?_
                clear hK K'
                try simp only [Act.put, List.setIfInBounds_toArray, List.set_cons_zero, List.set_cons_succ]
                refine anyT_done (by kernel_rfl) ?_ _
                go_wp2
                exact ⟨⟨q + 1, by omega, by go_num, by rw [HSTEP.out]; exact HSET.out, by rw [HSTEP.out]; exact HIN.out, HFF2.out⟩, by simp [RowKit.intOf]; omega⟩
            · obtain rfl : q = rl := by omega
              have HLL : Hid (wr.heap[lb]? = some (.cells (sets (roundU (usS (evAll nt E F (G.prods.take (j + 1)))) L0)) 30) ∧ InvS ns (roundU (usS (evAll nt E F (G.prods.take (j + 1)))) L0)) := by
                rw [HSN.out, roundS_app, HM.out]; exact ⟨hl1, hIq⟩
              have hFF := hid (HF3.out.trans hFq)
              have q1 : ¬ ((q : Int) < (q : Int)) := by omega
              clear hl1 hIq hFq
              go_wp2
              exact ⟨⟨j + 1, by omega, by go_num, HLL.out.1, HLL.out.2, hFF.out⟩, by simp [RowKit.intOf]; omega⟩
        · have j1 : ¬ ((j : Int) < (np : Int)) := by omega
          rw [List.take_of_length_le (by have := HNP.out; omega)] at hl1 hI2
          have HL2 : Hid (wr.heap[lb]? = some (.cells (sets (roundsU (usS (evAll nt E F G.prods)) (r + 1) L00)) 30) ∧ InvS ns (roundsU (usS (evAll nt E F G.prods)) (r + 1) L00)) := by
            show wr.heap[lb]? = some (.cells (sets (roundU (usS (evAll nt E F G.prods)) (roundsU (usS (evAll nt E F G.prods)) r L00))) 30) ∧ InvS ns (roundU (usS (evAll nt E F G.prods)) (roundsU (usS (evAll nt E F G.prods)) r L00))
            rw [HLR.out]; exact ⟨hl1, hI2⟩
          have HF2 := hid hF2
          clear hl1 hF2 hI2
          go_wp2
          exact ⟨⟨r + 1, by omega, by go_num, HL2.out.1, HL2.out.2, HF2.out⟩, by simp [RowKit.intOf]; omega⟩
    · obtain rfl : r = ns + 1 := by omega
      have r1 : ¬ (((ns + 1 : Nat) : Int) ≤ (ns : Int)) := by omega
      have HL1 := hid hl1
      clear hl1 hI1
      go_wp2
      go_ret
      exact ⟨lb, rfl, _, HE1.out, F, HF1.out, _, HLE.out _ F HF1.out.2.2, HL1.out, by omega, hb.trans (hBr.mono hsz)⟩

end Go.Proofs.Ytmfobiimihaiiaa
