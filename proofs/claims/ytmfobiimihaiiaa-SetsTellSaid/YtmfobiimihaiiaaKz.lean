/- The document's own answer: with what they begin. -/
import Derived.Laws.NewBlocks
import Derived.Test.YtmfobiimihaiiaaKx
import Derived.Test.YtmfobiimihaiiaaKr
import Derived.Test.YtmfobiimihaiiaaKw
namespace Go.Proofs.Ytmfobiimihaiiaa
open Go Go.RowKit Go.Lib Go.Joins

theorem roundF_snoc {nt : Nat} {E : List Bool} {ps : List PD} {L : List Nat} {j : Nat} (h : j < ps.length) :
    roundU (usS (evF nt E (ps.take (j + 1)))) L = stepS (roundU (usS (evF nt E (ps.take j))) L) ((ps.getD j default).sort.toNat, fun L => ofRow nt E L (ps.getD j default).rs 0) := by
  unfold roundU usS evF
  rw [List.take_add_one, List.map_append, List.map_append, List.foldl_append, List.getD_eq_getElem?_getD, List.getElem?_eq_getElem h]
  rfl
theorem sets_put {w : World} {lb so : Nat} {M : List Nat} (h : w.heap[lb]? = some (.cells (sets M) 30)) (x : Nat) : (w.setCell ⟨lb, so, none⟩ (u64 x)).heap[lb]? = some (.cells (sets (M.set so x)) 30) := by
  rw [block_setCell (i := so) h (u64 x)]
  simp [sets, List.map_set]

set_option maxRecDepth 100000 in
set_option maxHeartbeats 4000000 in
theorem RFirst_any {G : GD} {gv tv ov sv pv : Value} {tf : Nat → Nat → Value} {rv : Nat → Value} {w : World} (h : GrAt w gv G tv ov sv pv tf rv) (hV : validB G = true) :
    Calls Try.prog 18 #[gv] w fun e W' => ∃ fb, e = .returned (.slice (some ⟨fb, 0, none⟩) G.sorts.length G.sorts.length) ∧ ∃ E F, Least false G.prods G.sorts.length E ∧ LeastS (evF G.terms.length E G.prods) G.sorts.length F ∧
      W'.heap[fb]? = some (.cells (sets F) 30) ∧ w.heap.size ≤ fb ∧ Below w.heap.size w W' := by
  obtain ⟨W1, B, hW1, hB, c0, c1, c2, c3, c4, hG, hb, hsz⟩ := gr_box h
  subst hB
  have kv := REmpty_any hG hV
  have HV := hid hV
  have HR := hid hG.rights
  have HG := hid hG
  have hgv := h.eq
  have hs := hG.sorts
  have hp := hG.prods
  subst hgv
  obtain ⟨sa, sc, rfl, hsn, _⟩ := hs
  obtain ⟨pa, pc, rfl, hpn, hp⟩ := hp
  have HP := hid hp
  obtain ⟨n60, s60, p120⟩ := valid_few hV
  obtain ⟨st0, st1⟩ := valid_start hV
  have hsort : ∀ p ∈ G.prods, p.sort.toNat < G.sorts.length := fun p hp => by
    obtain ⟨h1, h2, _⟩ := valid_rows hV p hp
    omega
  have HLE : Hid (∀ E, LeastS (evF G.terms.length E G.prods) G.sorts.length (roundsU (usS (evF G.terms.length E G.prods)) (G.sorts.length + 1) (List.replicate G.sorts.length 0))) := fun E => leastS_rounds (locF hsort)
  have HINV : Hid (∀ E r j, InvS G.sorts.length (roundU (usS (evF G.terms.length E (G.prods.take j))) (roundsU (usS (evF G.terms.length E G.prods)) r (List.replicate G.sorts.length 0)))) :=
    fun E r j => (turnsS (locF (fun p hp => hsort p (List.mem_of_mem_take hp))) 0).inv _ ((turnsS (locF hsort) 0).invs (invS_zero _) r)
  have KR : Hid (∀ (W' : World) (E : List Bool) (F : List Nat) (eb fb : Nat) (l : List Int) (lv : Value), Below W1.heap.size W1 W' → W'.heap[eb]? = some (.cells (E.map Value.bool).toArray 4) → W'.heap[fb]? = some (.cells (sets F) 30) → E.length = G.sorts.length → F.length = G.sorts.length → (∀ x ∈ F, x < top) → IntsAt W' lv l →
      Calls Try.prog 33 #[.agg #[tv, ov, .slice sa G.sorts.length sc, .slice pa G.prods.length pc, .int .i64 G.start], .slice (some ⟨eb, 0, none⟩) G.sorts.length G.sorts.length, .slice (some ⟨fb, 0, none⟩) G.sorts.length G.sorts.length, lv, .int .u64 0] W' fun e W'' => e = .returned (u64 (ofRow G.terms.length E F l 0)) ∧ Below W'.heap.size W' W'') :=
    fun W' E F eb fb l lv hb hE hF hEl hFl hFt hl => Rrow_any (HG.out.mono hb) hE hF hEl hFl hFt (b := 0) (by decide) hl
  have ku := hid (fun (a c : Nat) ha hc w => RUnion_any a c ha hc w)
  have HIW : Hid (∀ j, j < G.prods.length → IntsAt W1 (rv j) (G.prods.getD j default).rs) := hG.rights
  clear hp h hG
  have hz1 : w.heap.size < W1.heap.size := by rw [hW1]; simp
  clear hV hsort
  generalize hns : G.sorts.length = ns at *
  generalize hnp : G.prods.length = np at *
  generalize hnt : G.terms.length = nt at *
  have HNP := hid hnp
  have HNS := hid hns
  have hn0 : ¬ ((ns : Int) = 0) := by omega
  have hn1 : ¬ (ns = 0) := by omega
  have hn4 : ((ns : Int) == 0) = false := beq_eq_false_iff_ne.2 hn0
  have hn2 : decide ((ns : Int) = 0) = false := decide_eq_false hn0
  have hn3 : decide (ns = 0) = false := decide_eq_false hn1
  clear hnp hns hnt HG
  go_enter Try.func18, Try.ntmps18
  go_wp2_with fail
  rw [← hW1]
  clear hW1
  refine kv.mono ?_
  rintro e w1 ⟨eb, E, rfl, hE1, hE2, hE3, hB1⟩
  have hEl := hE1.length
  have d2 := cell_below hB1 c2
  have km := made_sets ns (by omega)
  have i0 : (0 : Int) ≤ (ns : Int) := by omega
  obtain ⟨w2, hw2⟩ : ∃ w2, w2 = w1.alloc (.cells (sets (List.replicate ns 0)) 30) := ⟨_, rfl⟩
  have hl0 : w2.heap[w1.heap.size]? = some (.cells (sets (List.replicate ns 0)) 30) := by
    rw [hw2]; exact new_block w1 _
  have hB2 : Below w1.heap.size w1 w2 := by rw [hw2]; exact below_al (Below.refl _ _) _
  have hz2 := hB1.size
  have hE4 := hid (heap_keep hB2 hE2)
  have hel : eb < w1.heap.size := (Array.getElem?_eq_some_iff.1 hE2).1
  have hBA := hB1.trans (hB2.mono hz2)
  have HE1 := hid hE1
  clear hE1 hE2
  go_upto_region 5 with fail
  rw [← hw2]
  clear hw2 km d2
  generalize hlb : w1.heap.size = lb at *
  have hlb1 : W1.heap.size ≤ lb := by omega
  clear hlb
  have hBL := hid hBA
  go_wp2_with fail
  go_loopw [5] (fun i wr => ∃ r : Nat, r ≤ ns + 1 ∧ i = .int .i64 (r : Int) ∧ wr.heap[lb]? = some (.cells (sets (roundsU (usS (evF nt E G.prods)) r (List.replicate ns 0))) 30) ∧ Far (fun k => k = lb) w2 wr) (fun i _ => ns + 1 - (RowKit.intOf i).toNat)
  case atStart => exact ⟨0, by omega, rfl, hl0, Far.refl _ _⟩
  case round =>
    obtain ⟨r, hr, rfl, hl1, hF1⟩ := hrel
    have hBr : Below W1.heap.size W1 wr := hBL.out.trans (hF1.toBelow hBL.out.size (by rintro k rfl; exact hlb1))
    have d2 := cell_below hBr c2
    have d3 := cell_below hBr c3
    by_cases hrn : r ≤ ns
    · have r1 : (r : Int) ≤ (ns : Int) := by omega
      have HF1 := hid hF1
      have HI := hid (HINV.out E r)
      generalize hLr : roundsU (usS (evF nt E G.prods)) r (List.replicate ns 0) = L0 at *
      have HLR := hid hLr
      clear hLr
      go_wp2_with fail
      go_loopw [6] (fun i wr => ∃ j : Nat, j ≤ np ∧ i = .int .i64 (j : Int) ∧ wr.heap[lb]? = some (.cells (sets (roundU (usS (evF nt E (G.prods.take j))) L0)) 30) ∧ Far (fun k => k = lb) w2 wr) (fun i _ => np - (RowKit.intOf i).toNat)
      case atStart => exact ⟨0, by omega, rfl, hl1, HF1.out⟩
      case round =>
        clear d2 d3 hl1
        obtain ⟨j, hj, rfl, hl1, hF2⟩ := hrel
        have hBj : Below W1.heap.size W1 wr := hBL.out.trans (hF2.toBelow hBL.out.size (by rintro k rfl; exact hlb1))
        have d2 := cell_below hBj c2
        have d3 := cell_below hBj c3
        by_cases hlt : j < np
        · obtain ⟨b, off, rfl, hc⟩ := HP.out (by omega)
          obtain ⟨x0, x1, x2, x3⟩ := hc j hlt
          obtain ⟨v1, v2, v3, v4⟩ := prodB_sortNat (valid_prod HV.out (k := j) (by have := HNP.out; omega))
          have hIW := HIW.out j hlt
          have HSN := hid (roundF_snoc (nt := nt) (E := E) (L := L0) (j := j) (ps := G.prods) (by have := HNP.out; omega))
          obtain ⟨hMl, hMt⟩ := HI.out j
          clear hc
          generalize hM : roundU (usS (evF nt E (G.prods.take j))) L0 = M at *
          generalize G.prods.getD j default = P at *
          obtain ⟨so, hso⟩ : ∃ so : Nat, P.sort = so := ⟨P.sort.toNat, by omega⟩
          rw [hso] at x1
          have hsn' : so < ns := by have := HNS.out; omega
          have hstep : stepS M (P.sort.toNat, fun L => ofRow nt E L P.rs 0) = M.set so (M.getD so 0 ||| ofRow nt E M P.rs 0) := by unfold stepS; rw [hso]; rfl
          rw [hstep] at HSN
          replace x0 := cell_below hBj x0
          replace x1 := cell_below hBj x1
          replace x2 := cell_below hBj x2
          replace x3 := cell_below hBj x3
          have hx := ofRow_lt nt E hMt P.rs (b := 0) (by decide)
          have hy := getD_lt hMt so
          obtain ⟨⟨ra, rc, hrv, hrn2, hrc⟩, hri⟩ := hIW
          have hIW : IntsAt W1 (rv j) P.rs := ⟨⟨ra, rc, hrv, hrn2, hrc⟩, hri⟩
          rw [hrv] at x2 hIW
          have j0 : (0 : Int) ≤ (j : Int) := by omega
          have j1 : (j : Int) < (np : Int) := by omega
          have s0 : (0 : Int) ≤ (so : Int) := by omega
          have s1 : (so : Int) < (ns : Int) := by omega
          obtain ⟨w3, hw3⟩ : ∃ w3, w3 = wr.alloc (.cells #[.string P.lab, .int .i64 (so : Int), .slice ra P.rs.length rc, .int .i64 P.cls] 41) := ⟨_, rfl⟩
          have hb3 : Below wr.heap.size wr w3 := by rw [hw3]; exact below_al (Below.refl _ _) _
          have p1 : w3.cell? ⟨wr.heap.size, 1, none⟩ = some (.int .i64 (so : Int)) := by rw [hw3, World.cell?_alloc_mark]; rfl
          have p2 : w3.cell? ⟨wr.heap.size, 2, none⟩ = some (.slice ra P.rs.length rc) := by rw [hw3, World.cell?_alloc_mark]; rfl
          have hB3 : Below W1.heap.size W1 w3 := hBj.trans (hb3.mono hBj.size)
          have hl3 := heap_keep hb3 hl1
          have hE3' : w3.heap[eb]? = some (.cells (E.map Value.bool).toArray 4) := heap_keep hb3 (hF2.heap hE4.out (by omega))
          have y3 := cell_sets hl3 (i := so) (by omega)
          have q0 := cell_below hB3 c0
          have q1 := cell_below hB3 c1
          have q2 := cell_below hB3 c2
          have q3 := cell_below hB3 c3
          have q4 := cell_below hB3 c4
          have kr : Hid (Calls Try.prog 33 #[.agg #[tv, ov, .slice sa ns sc, .slice (some ⟨b, off, none⟩) np pc, .int .i64 G.start], .slice (some ⟨eb, 0, none⟩) ns ns, .slice (some ⟨lb, 0, none⟩) ns ns, .slice ra P.rs.length rc, .int .u64 0] w3.drew fun e W'' => e = .returned (u64 (ofRow nt E M P.rs 0)) ∧ Below w3.heap.size w3 W'') :=
            (KR.out w3.drew E M eb lb P.rs _ hB3.drew (heap_keep (Below.refl _ _).drew hE3') (heap_keep (Below.refl _ _).drew hl3) hEl hMl hMt (hIW.mono hB3.drew)).mono fun e W'' ⟨h1, h2⟩ => ⟨h1, (Below.refl _ _).drew.trans h2⟩
          have kU := hid (ku.out _ _ hy hx)
          have HL3 := hid hl3
          have HF3 : Hid (Far (fun k => k = lb) w2 w3) := hF2.trans (Far.ofBelow hb3)
          clear hrc hri hrv v1 v2 v3 v4 hso hstep hM hIW hMl hMt hx hy hl1 hl3 hE3'
          generalize hxx : ofRow nt E M P.rs 0 = x at *
          generalize hyy : M.getD so 0 = y at *
          clear hxx hyy
          generalize P.rs.length = rl at *
          go_wp2_with fail
          rw [← hw3]
          clear hw3 d2 d3 x0 x1 x2 x3
          generalize hpb : wr.heap.size = pb at *
          clear hpb
          refine region_T 16 (fun w' => w'.cell? ⟨pb, 1, none⟩ = some (.int .i64 (so : Int)) ∧ w'.cell? ⟨pb, 2, none⟩ = some (.slice ra rl rc) ∧ w'.cell? ⟨w.heap.size, 0, none⟩ = some tv ∧ w'.cell? ⟨w.heap.size, 1, none⟩ = some ov ∧ w'.cell? ⟨w.heap.size, 2, none⟩ = some (.slice sa ns sc) ∧ w'.cell? ⟨w.heap.size, 3, none⟩ = some (.slice (some ⟨b, off, none⟩) np pc) ∧ w'.cell? ⟨w.heap.size, 4, none⟩ = some (.int .i64 G.start) ∧ w'.cell? ⟨lb, so, none⟩ = some (u64 y)) (by kernel_rfl) ⟨p1, p2, q0, q1, q2, q3, q4, y3⟩ (fun inv hHeld => ?_)
          refine anyT_take (i := 0) (oi := { dst := some 36, op := Op.move (Operand.tmp 4), type := 36, pos := "ref.go:79", after := #[], guard := none }) (v := ?_) rfl (by kernel_rfl) (by kernel_rfl) (by kernel_rfl) (by decide) (by decide) (by kernel_rfl) (by kernel_rfl) (fun _ _ _ h => h) (Or.inl ⟨by rfl, ?_⟩) hHeld inv (fun inv => ?_)
          rotate_left
          · intro w hSw
            try dsimp only at hSw
            go_simp
            try with_reducible rfl
          simp only [Act.put, List.setIfInBounds_toArray, List.set_cons_zero, List.set_cons_succ]
          refine anyT_take (i := 1) (oi := { dst := some 37, op := Op.fieldAddr 41 (Operand.tmp 7) 1, type := 0, pos := "ref.go:79", after := #[], guard := none }) (v := ?_) rfl (by kernel_rfl) (by kernel_rfl) (by kernel_rfl) (by decide) (by decide) (by kernel_rfl) (by kernel_rfl) (fun _ _ _ h => h) (Or.inl ⟨by rfl, ?_⟩) hHeld inv (fun inv => ?_)
          rotate_left
          · intro w hSw
            try dsimp only at hSw
            go_simp
            try with_reducible rfl
          simp only [Act.put, List.setIfInBounds_toArray, List.set_cons_zero, List.set_cons_succ]
          refine anyT_take (i := 2) (oi := { dst := some 38, op := Op.load 3 (Operand.tmp 37), type := 3, pos := "ref.go:79", after := #[{ on := 1, ground := Ground.data }], guard := none }) (v := ?_) rfl (by kernel_rfl) (by kernel_rfl) (by kernel_rfl) (by decide) (by decide) (by kernel_rfl) (by kernel_rfl) (fun _ _ _ h => h) (Or.inl ⟨by rfl, ?_⟩) hHeld inv (fun inv => ?_)
          rotate_left
          · intro w hSw
            try dsimp only at hSw
            go_simp
            try with_reducible rfl
          simp only [Act.put, List.setIfInBounds_toArray, List.set_cons_zero, List.set_cons_succ]
          refine anyT_take (i := 3) (oi := { dst := some 39, op := Op.move (Operand.tmp 4), type := 36, pos := "ref.go:79", after := #[], guard := none }) (v := ?_) rfl (by kernel_rfl) (by kernel_rfl) (by kernel_rfl) (by decide) (by decide) (by kernel_rfl) (by kernel_rfl) (fun _ _ _ h => h) (Or.inl ⟨by rfl, ?_⟩) hHeld inv (fun inv => ?_)
          rotate_left
          · intro w hSw
            try dsimp only at hSw
            go_simp
            try with_reducible rfl
          simp only [Act.put, List.setIfInBounds_toArray, List.set_cons_zero, List.set_cons_succ]
          refine anyT_take (i := 4) (oi := { dst := some 40, op := Op.fieldAddr 41 (Operand.tmp 7) 1, type := 0, pos := "ref.go:79", after := #[], guard := none }) (v := ?_) rfl (by kernel_rfl) (by kernel_rfl) (by kernel_rfl) (by decide) (by decide) (by kernel_rfl) (by kernel_rfl) (fun _ _ _ h => h) (Or.inl ⟨by rfl, ?_⟩) hHeld inv (fun inv => ?_)
          rotate_left
          · intro w hSw
            try dsimp only at hSw
            go_simp
            try with_reducible rfl
          simp only [Act.put, List.setIfInBounds_toArray, List.set_cons_zero, List.set_cons_succ]
          refine anyT_take (i := 5) (oi := { dst := some 41, op := Op.load 3 (Operand.tmp 40), type := 3, pos := "ref.go:79", after := #[{ on := 4, ground := Ground.data }], guard := none }) (v := ?_) rfl (by kernel_rfl) (by kernel_rfl) (by kernel_rfl) (by decide) (by decide) (by kernel_rfl) (by kernel_rfl) (fun _ _ _ h => h) (Or.inl ⟨by rfl, ?_⟩) hHeld inv (fun inv => ?_)
          rotate_left
          · intro w hSw
            try dsimp only at hSw
            go_simp
            try with_reducible rfl
          simp only [Act.put, List.setIfInBounds_toArray, List.set_cons_zero, List.set_cons_succ]
          refine anyT_take (i := 6) (oi := { dst := some 42, op := Op.indexAddr 36 (Operand.tmp 39) (Operand.tmp 41), type := 0, pos := "ref.go:79", after := #[{ on := 3, ground := Ground.data }, { on := 5, ground := Ground.data }], guard := none }) (v := ?_) rfl (by kernel_rfl) (by kernel_rfl) (by kernel_rfl) (by decide) (by decide) (by kernel_rfl) (by kernel_rfl) (fun _ _ _ h => h) (Or.inl ⟨by rfl, ?_⟩) hHeld inv (fun inv => ?_)
          rotate_left
          · intro w hSw
            try dsimp only at hSw
            go_simp
            try with_reducible rfl
          simp only [Act.put, List.setIfInBounds_toArray, List.set_cons_zero, List.set_cons_succ]
          refine anyT_take (i := 7) (oi := { dst := some 43, op := Op.load 30 (Operand.tmp 42), type := 30, pos := "ref.go:79", after := #[{ on := 6, ground := Ground.data }], guard := none }) (v := ?_) rfl (by kernel_rfl) (by kernel_rfl) (by kernel_rfl) (by decide) (by decide) (by kernel_rfl) (by kernel_rfl) (fun _ _ _ h => h) (Or.inl ⟨by rfl, ?_⟩) hHeld inv (fun inv => ?_)
          rotate_left
          · intro w hSw
            try dsimp only at hSw
            go_simp
            try with_reducible rfl
          simp only [Act.put, List.setIfInBounds_toArray, List.set_cons_zero, List.set_cons_succ]
          refine anyT_take (i := 8) (oi := { dst := some 44, op := Op.load 27 (Operand.tmp 1), type := 27, pos := "ref.go:79", after := #[], guard := none }) (v := ?_) rfl (by kernel_rfl) (by kernel_rfl) (by kernel_rfl) (by decide) (by decide) (by kernel_rfl) (by kernel_rfl) (fun _ _ _ h => h) (Or.inl ⟨by rfl, ?_⟩) hHeld inv (fun inv => ?_)
          rotate_left
          · intro w hSw
            try dsimp only at hSw
            go_simp
            try with_reducible rfl
          simp only [Act.put, List.setIfInBounds_toArray, List.set_cons_zero, List.set_cons_succ]
          refine anyT_take (i := 9) (oi := { dst := some 45, op := Op.move (Operand.tmp 3), type := 33, pos := "ref.go:79", after := #[], guard := none }) (v := ?_) rfl (by kernel_rfl) (by kernel_rfl) (by kernel_rfl) (by decide) (by decide) (by kernel_rfl) (by kernel_rfl) (fun _ _ _ h => h) (Or.inl ⟨by rfl, ?_⟩) hHeld inv (fun inv => ?_)
          rotate_left
          · intro w hSw
            try dsimp only at hSw
            go_simp
            try with_reducible rfl
          simp only [Act.put, List.setIfInBounds_toArray, List.set_cons_zero, List.set_cons_succ]
          refine anyT_take (i := 10) (oi := { dst := some 46, op := Op.move (Operand.tmp 4), type := 36, pos := "ref.go:79", after := #[], guard := none }) (v := ?_) rfl (by kernel_rfl) (by kernel_rfl) (by kernel_rfl) (by decide) (by decide) (by kernel_rfl) (by kernel_rfl) (fun _ _ _ h => h) (Or.inl ⟨by rfl, ?_⟩) hHeld inv (fun inv => ?_)
          rotate_left
          · intro w hSw
            try dsimp only at hSw
            go_simp
            try with_reducible rfl
          simp only [Act.put, List.setIfInBounds_toArray, List.set_cons_zero, List.set_cons_succ]
          refine anyT_take (i := 11) (oi := { dst := some 47, op := Op.fieldAddr 41 (Operand.tmp 7) 2, type := 0, pos := "ref.go:79", after := #[], guard := none }) (v := ?_) rfl (by kernel_rfl) (by kernel_rfl) (by kernel_rfl) (by decide) (by decide) (by kernel_rfl) (by kernel_rfl) (fun _ _ _ h => h) (Or.inl ⟨by rfl, ?_⟩) hHeld inv (fun inv => ?_)
          rotate_left
          · intro w hSw
            try dsimp only at hSw
            go_simp
            try with_reducible rfl
          simp only [Act.put, List.setIfInBounds_toArray, List.set_cons_zero, List.set_cons_succ]
          refine anyT_take (i := 12) (oi := { dst := some 48, op := Op.load 28 (Operand.tmp 47), type := 28, pos := "ref.go:79", after := #[{ on := 11, ground := Ground.data }], guard := none }) (v := ?_) rfl (by kernel_rfl) (by kernel_rfl) (by kernel_rfl) (by decide) (by decide) (by kernel_rfl) (by kernel_rfl) (fun _ _ _ h => h) (Or.inl ⟨by rfl, ?_⟩) hHeld inv (fun inv => ?_)
          rotate_left
          · intro w hSw
            try dsimp only at hSw
            go_simp
            try with_reducible rfl
          simp only [Act.put, List.setIfInBounds_toArray, List.set_cons_zero, List.set_cons_succ]
          refine anyT_next (i := 13) (o := { dst := some 49, op := Op.call { callee := Callee.value (Operand.func 33), args := #[Operand.tmp 44, Operand.tmp 45, Operand.tmp 46, Operand.tmp 48, Operand.const (Value.int IntKind.u64 0)], argTypes := #[27, 33, 36, 28, 30] }, type := 30, pos := "ref.go:79", after := #[{ on := 8, ground := Ground.data }, { on := 9, ground := Ground.data }, { on := 10, ground := Ground.data }, { on := 12, ground := Ground.data }], guard := none }) (by kernel_rfl) rfl (by decide) inv (fun inv K' hK => ?_)
          go_simp
          refine kr.out.mono ?_
          rintro e w5 ⟨rfl, hb5⟩
          have hd : w5.cell? ⟨pb, 1, none⟩ = some (.int .i64 (so : Int)) ∧ w5.cell? ⟨pb, 2, none⟩ = some (.slice ra rl rc) ∧ w5.cell? ⟨w.heap.size, 0, none⟩ = some tv ∧ w5.cell? ⟨w.heap.size, 1, none⟩ = some ov ∧ w5.cell? ⟨w.heap.size, 2, none⟩ = some (.slice sa ns sc) ∧ w5.cell? ⟨w.heap.size, 3, none⟩ = some (.slice (some ⟨b, off, none⟩) np pc) ∧ w5.cell? ⟨w.heap.size, 4, none⟩ = some (.int .i64 G.start) ∧ w5.cell? ⟨lb, so, none⟩ = some (u64 y) := ⟨cell_below hb5 p1, cell_below hb5 p2, cell_below hb5 q0, cell_below hb5 q1, cell_below hb5 q2, cell_below hb5 q3, cell_below hb5 q4, cell_below hb5 y3⟩
          go_wp2_with fail
          refine hK.out _ _ hd ?_
          clear hK K'
          try simp only [Act.put, List.setIfInBounds_toArray, List.set_cons_zero, List.set_cons_succ]
          refine anyT_next (i := 14) (o := { dst := some 50, op := Op.call { callee := Callee.value (Operand.func 32), args := #[Operand.tmp 43, Operand.tmp 49], argTypes := #[30, 30] }, type := 30, pos := "ref.go:79", after := #[{ on := 7, ground := Ground.data }, { on := 13, ground := Ground.data }, { on := 13, ground := Ground.chain }], guard := none }) (by kernel_rfl) rfl (by decide) inv (fun inv K' hK => ?_)
          go_simp
          refine (kU.out _).mono ?_
          rintro e w6 ⟨rfl, hb6⟩
          have hd6 : w6.cell? ⟨pb, 1, none⟩ = some (.int .i64 (so : Int)) ∧ w6.cell? ⟨pb, 2, none⟩ = some (.slice ra rl rc) ∧ w6.cell? ⟨w.heap.size, 0, none⟩ = some tv ∧ w6.cell? ⟨w.heap.size, 1, none⟩ = some ov ∧ w6.cell? ⟨w.heap.size, 2, none⟩ = some (.slice sa ns sc) ∧ w6.cell? ⟨w.heap.size, 3, none⟩ = some (.slice (some ⟨b, off, none⟩) np pc) ∧ w6.cell? ⟨w.heap.size, 4, none⟩ = some (.int .i64 G.start) ∧ w6.cell? ⟨lb, so, none⟩ = some (u64 y) := ⟨cell_below hb6 (cell_below hb5 p1), cell_below hb6 (cell_below hb5 p2), cell_below hb6 (cell_below hb5 q0), cell_below hb6 (cell_below hb5 q1), cell_below hb6 (cell_below hb5 q2), cell_below hb6 (cell_below hb5 q3), cell_below hb6 (cell_below hb5 q4), cell_below hb6 (cell_below hb5 y3)⟩
          have hb7 := hb5.trans (hb6.mono hb5.size)
          go_wp2_with fail
          refine hK.out _ _ hd6 ?_
          clear hK K'
          try simp only [Act.put, List.setIfInBounds_toArray, List.set_cons_zero, List.set_cons_succ]
          have hl6 := heap_keep hb7 HL3.out
          have u6 := unfrozen_of_block hl6 so
          have y6 := hd6.2.2.2.2.2.2.2
          have HSET := hid (sets_put hl6 (so := so) (y ||| x))
          have HFF : Hid (Far (fun k => k = lb) w2 (w6.setCell ⟨lb, so, none⟩ (u64 (y ||| x)))) := Far.set (p := ⟨lb, so, none⟩) (HF3.out.trans (Far.ofBelow hb7)) rfl _
          clear hl6
          refine anyT_take (i := 15) (oi := { dst := some 51, op := Op.indexAddr 36 (Operand.tmp 36) (Operand.tmp 38), type := 0, pos := "ref.go:79", after := #[{ on := 0, ground := Ground.data }, { on := 2, ground := Ground.data }, { on := 0, ground := Ground.phase }, { on := 1, ground := Ground.phase }, { on := 2, ground := Ground.phase }, { on := 3, ground := Ground.phase }, { on := 4, ground := Ground.phase }, { on := 5, ground := Ground.phase }, { on := 6, ground := Ground.phase }, { on := 7, ground := Ground.phase }, { on := 8, ground := Ground.phase }, { on := 9, ground := Ground.phase }, { on := 10, ground := Ground.phase }, { on := 11, ground := Ground.phase }, { on := 12, ground := Ground.phase }, { on := 13, ground := Ground.phase }, { on := 14, ground := Ground.phase }], guard := none }) (v := ?_) rfl (by kernel_rfl) (by kernel_rfl) (by kernel_rfl) (by decide) (by decide) (by kernel_rfl) (by kernel_rfl) (fun _ _ _ h => h) (Or.inl ⟨by rfl, ?_⟩) hd6 inv (fun inv => ?_)
          rotate_left
          · intro w hSw
            try dsimp only at hSw
            go_simp
            try with_reducible rfl
          simp only [Act.put, List.setIfInBounds_toArray, List.set_cons_zero, List.set_cons_succ]
          refine anyT_one (i := 16) (o := { dst := none, op := Op.store 30 (Operand.tmp 51) (Operand.tmp 50), type := 0, pos := "ref.go:79", after := #[{ on := 15, ground := Ground.data }, { on := 14, ground := Ground.data }, { on := 14, ground := Ground.chain }, { on := 0, ground := Ground.phase }, { on := 1, ground := Ground.phase }, { on := 2, ground := Ground.phase }, { on := 3, ground := Ground.phase }, { on := 4, ground := Ground.phase }, { on := 5, ground := Ground.phase }, { on := 6, ground := Ground.phase }, { on := 7, ground := Ground.phase }, { on := 8, ground := Ground.phase }, { on := 9, ground := Ground.phase }, { on := 10, ground := Ground.phase }, { on := 11, ground := Ground.phase }, { on := 12, ground := Ground.phase }, { on := 13, ground := Ground.phase }, { on := 14, ground := Ground.phase }], guard := none }) (by kernel_rfl) rfl (fun K' hK => ?_)
          go_simp
          refine hK.out _ _ (fun h => absurd h (by decide)) ?_
          clear hK K'
          try simp only [Act.put, List.setIfInBounds_toArray, List.set_cons_zero, List.set_cons_succ]
          refine anyT_done (by kernel_rfl) ?_ _
          go_wp2
          exact ⟨⟨j + 1, by omega, by go_num, by rw [HSN.out]; exact HSET.out, HFF.out⟩, by simp [RowKit.intOf]; omega⟩
        · have j1 : ¬ ((j : Int) < (np : Int)) := by omega
          rw [List.take_of_length_le (by have := HNP.out; omega)] at hl1
          have HL2 : Hid (wr.heap[lb]? = some (.cells (sets (roundsU (usS (evF nt E G.prods)) (r + 1) (List.replicate ns 0))) 30)) := by
            show wr.heap[lb]? = some (.cells (sets (roundU (usS (evF nt E G.prods)) (roundsU (usS (evF nt E G.prods)) r (List.replicate ns 0)))) 30)
            rw [HLR.out]; exact hl1
          have HF2 := hid hF2
          clear hl1 hF2
          go_wp2
          exact ⟨⟨r + 1, by omega, by go_num, HL2.out, HF2.out⟩, by simp [RowKit.intOf]; omega⟩
    · obtain rfl : r = ns + 1 := by omega
      have r1 : ¬ (((ns + 1 : Nat) : Int) ≤ (ns : Int)) := by omega
      have HL1 := hid hl1
      clear hl1
      go_wp2
      go_ret
      exact ⟨lb, rfl, E, HE1.out, _, HLE.out E, HL1.out, by omega, hb.trans (hBr.mono hsz)⟩

end Go.Proofs.Ytmfobiimihaiiaa
