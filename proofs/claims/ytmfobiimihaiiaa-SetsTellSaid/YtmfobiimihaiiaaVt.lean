/- The walk of the law SetsTell. -/
import Derived.Test.YtmfobiimihaiiaaMl
import Derived.Test.YtmfobiimihaiiaaLw
import Derived.Test.YtmfobiimihaiiaaNb
namespace Go.Proofs.Ytmfobiimihaiiaa
open Go Go.RowKit Go.Lib Go.Joins

set_option maxRecDepth 100000 in
set_option maxHeartbeats 4000000 in
theorem tell_walk {G : GD} {gv tv ov sv pv : Value} {tf : Nat → Nat → Value} {rv : Nat → Value} {w : World} (h : GrAt w gv G tv ov sv pv tf rv) (A : Option Addr) (l : List Int) (c : Nat) (hl : IntsAt w (.slice A l.length c) l)
    (b : Nat) (hb0 : b < top) :
    Calls Try.prog 3 #[gv, .slice A l.length c, u64 b] w fun e w' => e = .returned (.bool true) ∧ Below w.heap.size w w' := by
  obtain ⟨W1, B, hW1, hB, c0, c1, c2, c3, c4, hG, hb, hsz⟩ := gr_box h
  subst hB
  have kw := hid (works_any W1)
  have kf := hid fun (W' : World) (hb : Below W1.heap.size W1 W') => few_any (hG.mono hb)
  have kv := hid fun (W' : World) (hb : Below W1.heap.size W1 W') => Valid_any (hG.mono hb)
  have hgv := h.eq
  have hs := h.sorts
  have ht := h.terms
  have hp := h.prods
  subst hgv
  obtain ⟨sa, sc, rfl, hsn, hs⟩ := hs
  obtain ⟨ta, tc, rfl, htn, ht⟩ := ht
  obtain ⟨pa, pc, rfl, hpn, hp⟩ := hp
  have HSC := hid hs
  have HTC := hid ht
  have HPC := hid hp
  clear hs ht hp
  have kE12 := hid fun (W' : World) (hb : Below W1.heap.size W1 W') => E12 (hG.mono hb)
  have kE13 := hid fun (W' : World) (hb : Below W1.heap.size W1 W') => E13 (hG.mono hb)
  have kL14 := hid fun (W' : World) (hb : Below W1.heap.size W1 W') => L14 (hG.mono hb)
  have kL15 := hid fun (W' : World) (hb : Below W1.heap.size W1 W') => L15 (hG.mono hb)
  have kF17 := hid fun (W' : World) (hb : Below W1.heap.size W1 W') => F17 (hG.mono hb)
  have kF18 := hid fun (W' : World) (hb : Below W1.heap.size W1 W') => F18 (hG.mono hb)
  have kW19 := hid fun (W' : World) (hb : Below W1.heap.size W1 W') => W19 (hG.mono hb)
  have kW20 := hid fun (W' : World) (hb : Below W1.heap.size W1 W') => W20 (hG.mono hb)
  have kO21 := hid fun (W' : World) (hb : Below W1.heap.size W1 W') (hl : IntsAt W' (.slice A l.length c) l) => O21 (hG.mono hb) hl hb0
  have kO22 := hid fun (W' : World) (hb : Below W1.heap.size W1 W') (hl : IntsAt W' (.slice A l.length c) l) => O22 (hG.mono hb) hl hb0
  have HSL := hid fun (hV : validB G = true) => (valid_few hV).2.1
  have HTL := hid fun (k : Bool) (L : List Bool) (h : TruL k G L) => h
  have HLEN : Hid (∀ L, TruL false G L → L.length ≤ 60) := fun L h => by
    rcases h with ⟨a, h⟩ | ⟨a, h⟩
    · rw [h.length]; exact (valid_few a).2.1
    · rw [h]; simp
  have HLENF : Hid (∀ L, FirL G L → L.length ≤ 60) := fun L h => by
    rcases h with ⟨a, E, _, h⟩ | ⟨a, h⟩
    · rw [h.length]; exact (valid_few a).2.1
    · rw [h]; simp
  have HLENW : Hid (∀ L, FolL G L → L.length ≤ 60) := fun L h => by
    rcases h with ⟨a, E, F, _, _, h⟩ | ⟨a, h⟩
    · rw [h.length]; exact (valid_few a).2.1
    · rw [h]; simp
  clear h hG HSL HTL
  have HL := hid hl
  clear hl
  generalize hfb : decide (fewG G) = fb at *
  generalize hns : G.sorts.length = ns at *
  generalize hnt : G.terms.length = nt at *
  generalize hm : l.length = m at *
  cases fb
  · go_enter Try.func3, Try.ntmps3
    go_wp2_with fail
    rw [← hW1]
    clear hW1
    refine kw.out.mono ?_
    rintro e w1 ⟨rfl, hBx⟩
    have d0 := cell_below hBx c0
    have d1 := cell_below hBx c1
    have d2 := cell_below hBx c2
    have d3 := cell_below hBx c3
    have d4 := cell_below hBx c4
    clear c0 c1 c2 c3 c4
    go_wp2_with fail
    refine (kf.out _ hBx).mono ?_
    rintro e w2 ⟨rfl, hBq⟩
    replace d0 := cell_below hBq d0
    replace d1 := cell_below hBq d1
    replace d2 := cell_below hBq d2
    replace d3 := cell_below hBq d3
    replace d4 := cell_below hBq d4
    replace hBx := hBx.trans (hBq.mono hBx.size)
    clear hBq
    go_wp2_with fail
    go_ret
    exact ⟨rfl, hb.trans (hBx.mono hsz)⟩
  by_cases hm1 : (30 : Int) < (m : Int)
  · go_enter Try.func3, Try.ntmps3
    go_wp2_with fail
    rw [← hW1]
    clear hW1
    refine kw.out.mono ?_
    rintro e w1 ⟨rfl, hBx⟩
    have d0 := cell_below hBx c0
    have d1 := cell_below hBx c1
    have d2 := cell_below hBx c2
    have d3 := cell_below hBx c3
    have d4 := cell_below hBx c4
    clear c0 c1 c2 c3 c4
    go_wp2_with fail
    refine (kf.out _ hBx).mono ?_
    rintro e w2 ⟨rfl, hBq⟩
    replace d0 := cell_below hBq d0
    replace d1 := cell_below hBq d1
    replace d2 := cell_below hBq d2
    replace d3 := cell_below hBq d3
    replace d4 := cell_below hBq d4
    replace hBx := hBx.trans (hBq.mono hBx.size)
    clear hBq
    go_wp2_with fail
    go_ret
    exact ⟨rfl, hb.trans (hBx.mono hsz)⟩
  have hm2 : (m : Int) ≤ 30 := by omega
  go_enter Try.func3, Try.ntmps3
  go_wp2_with fail
  rw [← hW1]
  clear hW1
  refine kw.out.mono ?_
  rintro e w1 ⟨rfl, hBx⟩
  have d0 := cell_below hBx c0
  have d1 := cell_below hBx c1
  have d2 := cell_below hBx c2
  have d3 := cell_below hBx c3
  have d4 := cell_below hBx c4
  clear c0 c1 c2 c3 c4
  go_wp2_with fail
  refine (kf.out _ hBx).mono ?_
  rintro e w2 ⟨rfl, hBq⟩
  replace d0 := cell_below hBq d0
  replace d1 := cell_below hBq d1
  replace d2 := cell_below hBq d2
  replace d3 := cell_below hBq d3
  replace d4 := cell_below hBq d4
  replace hBx := hBx.trans (hBq.mono hBx.size)
  clear hBq
  go_wp2_with fail
  refine (kE12.out _ hBx).mono ?_
  rintro e w3 ⟨v1, L1, rfl, hT1, hV1, hBq⟩
  replace d0 := cell_below hBq d0
  replace d1 := cell_below hBq d1
  replace d2 := cell_below hBq d2
  replace d3 := cell_below hBq d3
  replace d4 := cell_below hBq d4
  replace hBx := hBx.trans (hBq.mono hBx.size)
  clear hBq
  go_wp2_with fail
  refine (kE13.out _ hBx).mono ?_
  rintro e w4 ⟨v2, L2, rfl, hT2, hV2, hBq⟩
  replace d0 := cell_below hBq d0
  replace d1 := cell_below hBq d1
  replace d2 := cell_below hBq d2
  replace d3 := cell_below hBq d3
  replace d4 := cell_below hBq d4
  replace hV1 := hV1.mono hBq
  replace hBx := hBx.trans (hBq.mono hBx.size)
  clear hBq
  go_wp2_with fail
  refine (kL14.out _ hBx).mono ?_
  rintro e w5 ⟨v3, L3, rfl, hT3, hV3, hBq⟩
  replace d0 := cell_below hBq d0
  replace d1 := cell_below hBq d1
  replace d2 := cell_below hBq d2
  replace d3 := cell_below hBq d3
  replace d4 := cell_below hBq d4
  replace hV1 := hV1.mono hBq
  replace hV2 := hV2.mono hBq
  replace hBx := hBx.trans (hBq.mono hBx.size)
  clear hBq
  go_wp2_with fail
  refine (kL15.out _ hBx).mono ?_
  rintro e w6 ⟨v4, L4, rfl, hT4, hV4, hBq⟩
  replace d0 := cell_below hBq d0
  replace d1 := cell_below hBq d1
  replace d2 := cell_below hBq d2
  replace d3 := cell_below hBq d3
  replace d4 := cell_below hBq d4
  replace hV1 := hV1.mono hBq
  replace hV2 := hV2.mono hBq
  replace hV3 := hV3.mono hBq
  replace hBx := hBx.trans (hBq.mono hBx.size)
  clear hBq
  have hlen := hT1.len hT3
  have hl60 := HLEN.out _ hT1
  obtain rfl := hT1.same hT2
  obtain rfl := hT3.same hT4
  clear hT1 hT2 hT3 hT4
  obtain ⟨A1, rfl, hA1⟩ := hV1
  obtain ⟨A2, rfl, hA2⟩ := hV2
  obtain ⟨A3, rfl, hA3⟩ := hV3
  obtain ⟨A4, rfl, hA4⟩ := hV4
  have H1 := hid hA1
  have H2 := hid hA2
  have H3 := hid hA3
  have H4 := hid hA4
  rw [← hlen]
  have HLE := hid hlen
  clear hA1 hA2 hA3 hA4 hlen
  generalize hn : L1.length = n at *
  have HN := hid hn
  have HLw := hid (HL.out.mono (hb.trans (hBx.mono hsz)))
  clear hn
  go_wp2_with fail
  go_loopw [13] (fun i wr => ∃ j : Nat, j ≤ n ∧ i = .int .i64 (j : Int) ∧ ∃ k, wr = w6.drewN k) (fun i _ => n - (RowKit.intOf i).toNat)
  case atStart => exact ⟨0, by omega, rfl, 0, rfl⟩
  case round =>
    obtain ⟨j, hj, rfl, k, hk⟩ := hrel
    have hbr : Below w6.heap.size w6 wr := by rw [hk]; exact below_drewN (Below.refl _ _) k
    have hk2 := hid hk
    clear hk
    by_cases hlt : j < n
    · have n1 : L1 ≠ [] := by intro e; have := HN.out; rw [e] at this; simp at this; omega
      have n3 : L3 ≠ [] := by intro e; have := HLE.out; have h5 := HN.out; rw [e] at this; simp at this; omega
      obtain ⟨b1, rfl, hb1⟩ := H1.out n1
      obtain ⟨b2, rfl, hb2⟩ := H2.out n1
      obtain ⟨b3, rfl, hb3⟩ := H3.out n3
      obtain ⟨b4, rfl, hb4⟩ := H4.out n3
      have x1 := cell_below hbr (cell_bools hb1 (i := j) (by have := HN.out; omega))
      have x2 := cell_below hbr (cell_bools hb2 (i := j) (by have := HN.out; omega))
      have x3 := cell_below hbr (cell_bools hb3 (i := j) (by have := HLE.out; have := HN.out; omega))
      have x4 := cell_below hbr (cell_bools hb4 (i := j) (by have := HLE.out; have := HN.out; omega))
      have j0 : (0 : Int) ≤ (j : Int) := by omega
      have j1 : (j : Int) < (n : Int) := by omega
      clear hb1 hb2 hb3 hb4 hbr d0 d1 d2 d3 d4
      generalize L1.getD j false = x at *
      generalize L3.getD j false = y at *
      go_wp2_with fail
      go_quiet (fail)
      go_wp2_with fail
      exact ⟨⟨j + 1, by omega, by go_num, k + nq, by rw [hk2.out]; simp⟩, by simp [RowKit.intOf]; omega⟩
    · have hB0 := hBx.trans (hbr.mono hBx.size)
      replace d0 := cell_below hbr d0
      replace d1 := cell_below hbr d1
      replace d2 := cell_below hbr d2
      replace d3 := cell_below hbr d3
      replace d4 := cell_below hbr d4
      have HLq := hid (HLw.out.mono hbr)
      clear HLw
      go_wp2_with fail
      refine region_T 26 (fun w' => w'.cell? ⟨w.heap.size, 0, none⟩ = some (.slice ta nt tc) ∧ w'.cell? ⟨w.heap.size, 1, none⟩ = some ov ∧ w'.cell? ⟨w.heap.size, 2, none⟩ = some (.slice sa ns sc) ∧ w'.cell? ⟨w.heap.size, 3, none⟩ = some (.slice pa G.prods.length pc) ∧ w'.cell? ⟨w.heap.size, 4, none⟩ = some (.int .i64 G.start)) (by kernel_rfl) ⟨d0, d1, d2, d3, d4⟩ (fun inv hHeld => ?_)
      refine anyT_take (i := 0) (oi := { dst := some 73, op := Op.move (Operand.tmp 7), type := 4, pos := "law.go:57", after := #[], guard := none }) (v := ?_) rfl (by kernel_rfl) (by kernel_rfl) (by kernel_rfl) (by decide) (by decide) (by kernel_rfl) (by kernel_rfl) (fun _ _ _ h => h) (Or.inl ⟨by rfl, ?_⟩) hHeld inv (fun inv => ?_)
      rotate_left
      · intro w hSw
        try dsimp only at hSw
        go_simp
        try with_reducible rfl
      simp only [Act.put, List.setIfInBounds_toArray, List.set_cons_zero, List.set_cons_succ]
      refine anyT_take (i := 1) (oi := { dst := some 74, op := Op.move (Operand.tmp 73), type := 4, pos := "law.go:57", after := #[{ on := 0, ground := Ground.data }], guard := none }) (v := ?_) rfl (by kernel_rfl) (by kernel_rfl) (by kernel_rfl) (by decide) (by decide) (by kernel_rfl) (by kernel_rfl) (fun _ _ _ h => h) (Or.inl ⟨by rfl, ?_⟩) hHeld inv (fun inv => ?_)
      rotate_left
      · intro w hSw
        try dsimp only at hSw
        go_simp
        try with_reducible rfl
      simp only [Act.put, List.setIfInBounds_toArray, List.set_cons_zero, List.set_cons_succ]
      refine anyT_take (i := 2) (oi := { dst := some 75, op := Op.load 27 (Operand.tmp 3), type := 27, pos := "law.go:57", after := #[{ on := 1, ground := Ground.guard }], guard := some (1, true) }) (v := ?_) rfl (by kernel_rfl) (by kernel_rfl) (by kernel_rfl) (by decide) (by decide) (by kernel_rfl) (by kernel_rfl) (fun _ _ _ h => h) (Or.inl ⟨by rfl, ?_⟩) hHeld inv (fun inv => ?_)
      rotate_left
      · intro w hSw
        try dsimp only at hSw
        go_simp
        try with_reducible rfl
      simp only [Act.put, List.setIfInBounds_toArray, List.set_cons_zero, List.set_cons_succ]
      refine anyT_take (i := 4) (oi := { dst := some 77, op := Op.load 27 (Operand.tmp 3), type := 27, pos := "law.go:57", after := #[{ on := 1, ground := Ground.guard }], guard := some (1, true) }) (v := ?_) rfl (by kernel_rfl) (by kernel_rfl) (by kernel_rfl) (by decide) (by decide) (by kernel_rfl) (by kernel_rfl) (fun _ _ _ h => h) (Or.inl ⟨by rfl, ?_⟩) hHeld inv (fun inv => ?_)
      rotate_left
      · intro w hSw
        try dsimp only at hSw
        go_simp
        try with_reducible rfl
      simp only [Act.put, List.setIfInBounds_toArray, List.set_cons_zero, List.set_cons_succ]
      refine anyT_next (i := 3) (o := { dst := some 76, op := Op.call { callee := Callee.value (Operand.func 17), args := #[Operand.tmp 75], argTypes := #[27] }, type := 36, pos := "law.go:57", after := #[{ on := 2, ground := Ground.data }, { on := 1, ground := Ground.chain }, { on := 1, ground := Ground.guard }], guard := some (1, true) }) (by kernel_rfl) rfl (by decide) inv (fun inv K' hK => ?_)
      go_simp
      refine (kF17.out _ hB0.drew).mono ?_
      rintro e w7 ⟨v5, L5, rfl, hF1, hS1, hBq⟩
      replace hBq := below_undrew hBq
      have hR := hBq
      replace d0 := cell_below hBq d0
      replace d1 := cell_below hBq d1
      replace d2 := cell_below hBq d2
      replace d3 := cell_below hBq d3
      replace d4 := cell_below hBq d4
      clear hBq
      go_wp2_with fail
      refine hK.out _ _ ⟨d0, d1, d2, d3, d4⟩ ?_
      clear hK K'
      try simp only [Act.put, List.setIfInBounds_toArray, List.set_cons_zero, List.set_cons_succ]
      refine anyT_next (i := 5) (o := { dst := some 78, op := Op.call { callee := Callee.value (Operand.func 18), args := #[Operand.tmp 77], argTypes := #[27] }, type := 36, pos := "law.go:57", after := #[{ on := 4, ground := Ground.data }, { on := 3, ground := Ground.chain }, { on := 1, ground := Ground.guard }], guard := some (1, true) }) (by kernel_rfl) rfl (by decide) inv (fun inv K' hK => ?_)
      go_simp
      refine (kF18.out _ (hB0.trans (hR.mono hB0.size))).mono ?_
      rintro e w8 ⟨v6, L6, rfl, hF2, hS2, hBq⟩
      obtain rfl := hF1.same hF2
      replace hS1 := hS1.mono hBq
      have hl5 := HLENF.out _ hF1
      replace hR := hR.trans (hBq.mono hR.size)
      replace d0 := cell_below hBq d0
      replace d1 := cell_below hBq d1
      replace d2 := cell_below hBq d2
      replace d3 := cell_below hBq d3
      replace d4 := cell_below hBq d4
      clear hBq hF1 hF2
      go_wp2_with fail
      refine hK.out _ _ ⟨d0, d1, d2, d3, d4⟩ ?_
      clear hK K'
      try simp only [Act.put, List.setIfInBounds_toArray, List.set_cons_zero, List.set_cons_succ]
      refine anyT_next (i := 6) (o := { dst := some 79, op := Op.call { callee := Callee.value (Operand.func 16), args := #[Operand.tmp 76, Operand.tmp 78], argTypes := #[36, 36] }, type := 4, pos := "law.go:57", after := #[{ on := 3, ground := Ground.data }, { on := 5, ground := Ground.data }, { on := 5, ground := Ground.chain }, { on := 1, ground := Ground.guard }], guard := some (1, true) }) (by kernel_rfl) rfl (by decide) inv (fun inv K' hK => ?_)
      go_simp
      refine (RSame_any hS1 hS2 (by omega)).mono ?_
      rintro e w9 ⟨rfl, n9, hw9⟩
      have hBq : Below w8.heap.size w8 w9 := by rw [hw9]; exact below_drewN (Below.refl _ _) n9
      replace hR := hR.trans (hBq.mono hR.size)
      replace d0 := cell_below hBq d0
      replace d1 := cell_below hBq d1
      replace d2 := cell_below hBq d2
      replace d3 := cell_below hBq d3
      replace d4 := cell_below hBq d4
      clear hBq hw9 hS1 hS2 hl5
      go_wp2_with fail
      refine hK.out _ _ ⟨d0, d1, d2, d3, d4⟩ ?_
      clear hK K'
      try simp only [Act.put, List.setIfInBounds_toArray, List.set_cons_zero, List.set_cons_succ]
      have hd : w9.cell? ⟨w.heap.size, 0, none⟩ = some (.slice ta nt tc) ∧ w9.cell? ⟨w.heap.size, 1, none⟩ = some ov ∧ w9.cell? ⟨w.heap.size, 2, none⟩ = some (.slice sa ns sc) ∧ w9.cell? ⟨w.heap.size, 3, none⟩ = some (.slice pa G.prods.length pc) ∧ w9.cell? ⟨w.heap.size, 4, none⟩ = some (.int .i64 G.start) := ⟨d0, d1, d2, d3, d4⟩
      refine anyT_take (i := 7) (oi := { dst := some 80, op := Op.pick (Operand.tmp 74) (Operand.tmp 79) (Operand.const (Value.bool false)), type := 4, pos := "law.go:57", after := #[{ on := 1, ground := Ground.data }, { on := 6, ground := Ground.data }], guard := none }) (v := ?_) rfl (by kernel_rfl) (by kernel_rfl) (by kernel_rfl) (by decide) (by decide) (by kernel_rfl) (by kernel_rfl) (fun _ _ _ h => h) (Or.inl ⟨by rfl, ?_⟩) hd inv (fun inv => ?_)
      rotate_left
      · intro w hSw
        try dsimp only at hSw
        go_simp
        try with_reducible rfl
      simp only [Act.put, List.setIfInBounds_toArray, List.set_cons_zero, List.set_cons_succ]
      refine anyT_take (i := 8) (oi := { dst := some 81, op := Op.move (Operand.tmp 80), type := 4, pos := "law.go:57", after := #[{ on := 7, ground := Ground.data }, { on := 6, ground := Ground.chain }], guard := none }) (v := ?_) rfl (by kernel_rfl) (by kernel_rfl) (by kernel_rfl) (by decide) (by decide) (by kernel_rfl) (by kernel_rfl) (fun _ _ _ h => h) (Or.inl ⟨by rfl, ?_⟩) hd inv (fun inv => ?_)
      rotate_left
      · intro w hSw
        try dsimp only at hSw
        go_simp
        try with_reducible rfl
      simp only [Act.put, List.setIfInBounds_toArray, List.set_cons_zero, List.set_cons_succ]
      refine anyT_take (i := 9) (oi := { dst := some 82, op := Op.load 27 (Operand.tmp 3), type := 27, pos := "law.go:57", after := #[{ on := 8, ground := Ground.guard }], guard := some (8, true) }) (v := ?_) rfl (by kernel_rfl) (by kernel_rfl) (by kernel_rfl) (by decide) (by decide) (by kernel_rfl) (by kernel_rfl) (fun _ _ _ h => h) (Or.inl ⟨by rfl, ?_⟩) hd inv (fun inv => ?_)
      rotate_left
      · intro w hSw
        try dsimp only at hSw
        go_simp
        try with_reducible rfl
      simp only [Act.put, List.setIfInBounds_toArray, List.set_cons_zero, List.set_cons_succ]
      refine anyT_take (i := 11) (oi := { dst := some 84, op := Op.load 27 (Operand.tmp 3), type := 27, pos := "law.go:57", after := #[{ on := 8, ground := Ground.guard }], guard := some (8, true) }) (v := ?_) rfl (by kernel_rfl) (by kernel_rfl) (by kernel_rfl) (by decide) (by decide) (by kernel_rfl) (by kernel_rfl) (fun _ _ _ h => h) (Or.inl ⟨by rfl, ?_⟩) hd inv (fun inv => ?_)
      rotate_left
      · intro w hSw
        try dsimp only at hSw
        go_simp
        try with_reducible rfl
      simp only [Act.put, List.setIfInBounds_toArray, List.set_cons_zero, List.set_cons_succ]
      clear hd
      refine anyT_next (i := 10) (o := { dst := some 83, op := Op.call { callee := Callee.value (Operand.func 19), args := #[Operand.tmp 82], argTypes := #[27] }, type := 36, pos := "law.go:57", after := #[{ on := 9, ground := Ground.data }, { on := 8, ground := Ground.chain }, { on := 8, ground := Ground.guard }], guard := some (8, true) }) (by kernel_rfl) rfl (by decide) inv (fun inv K' hK => ?_)
      go_simp
      refine (kW19.out _ (hB0.trans (hR.mono hB0.size))).mono ?_
      rintro e w10 ⟨v7, L7, rfl, hF1, hS1, hBq⟩
      replace hR := hR.trans (hBq.mono hR.size)
      replace d0 := cell_below hBq d0
      replace d1 := cell_below hBq d1
      replace d2 := cell_below hBq d2
      replace d3 := cell_below hBq d3
      replace d4 := cell_below hBq d4
      clear hBq
      go_wp2_with fail
      refine hK.out _ _ ⟨d0, d1, d2, d3, d4⟩ ?_
      clear hK K'
      try simp only [Act.put, List.setIfInBounds_toArray, List.set_cons_zero, List.set_cons_succ]
      refine anyT_next (i := 12) (o := { dst := some 85, op := Op.call { callee := Callee.value (Operand.func 20), args := #[Operand.tmp 84], argTypes := #[27] }, type := 36, pos := "law.go:57", after := #[{ on := 11, ground := Ground.data }, { on := 10, ground := Ground.chain }, { on := 8, ground := Ground.guard }], guard := some (8, true) }) (by kernel_rfl) rfl (by decide) inv (fun inv K' hK => ?_)
      go_simp
      refine (kW20.out _ (hB0.trans (hR.mono hB0.size))).mono ?_
      rintro e w11 ⟨v8, L8, rfl, hF2, hS2, hBq⟩
      obtain rfl := hF1.same hF2
      replace hS1 := hS1.mono hBq
      have hl5 := HLENW.out _ hF1
      replace hR := hR.trans (hBq.mono hR.size)
      replace d0 := cell_below hBq d0
      replace d1 := cell_below hBq d1
      replace d2 := cell_below hBq d2
      replace d3 := cell_below hBq d3
      replace d4 := cell_below hBq d4
      clear hBq hF1 hF2
      go_wp2_with fail
      refine hK.out _ _ ⟨d0, d1, d2, d3, d4⟩ ?_
      clear hK K'
      try simp only [Act.put, List.setIfInBounds_toArray, List.set_cons_zero, List.set_cons_succ]
      refine anyT_next (i := 13) (o := { dst := some 86, op := Op.call { callee := Callee.value (Operand.func 16), args := #[Operand.tmp 83, Operand.tmp 85], argTypes := #[36, 36] }, type := 4, pos := "law.go:57", after := #[{ on := 10, ground := Ground.data }, { on := 12, ground := Ground.data }, { on := 12, ground := Ground.chain }, { on := 8, ground := Ground.guard }], guard := some (8, true) }) (by kernel_rfl) rfl (by decide) inv (fun inv K' hK => ?_)
      go_simp
      refine (RSame_any hS1 hS2 (by omega)).mono ?_
      rintro e w12 ⟨rfl, n12, hw12⟩
      have hBq : Below w11.heap.size w11 w12 := by rw [hw12]; exact below_drewN (Below.refl _ _) n12
      replace hR := hR.trans (hBq.mono hR.size)
      replace d0 := cell_below hBq d0
      replace d1 := cell_below hBq d1
      replace d2 := cell_below hBq d2
      replace d3 := cell_below hBq d3
      replace d4 := cell_below hBq d4
      clear hBq hw12 hS1 hS2 hl5
      go_wp2_with fail
      refine hK.out _ _ ⟨d0, d1, d2, d3, d4⟩ ?_
      clear hK K'
      try simp only [Act.put, List.setIfInBounds_toArray, List.set_cons_zero, List.set_cons_succ]
      have hd : w12.cell? ⟨w.heap.size, 0, none⟩ = some (.slice ta nt tc) ∧ w12.cell? ⟨w.heap.size, 1, none⟩ = some ov ∧ w12.cell? ⟨w.heap.size, 2, none⟩ = some (.slice sa ns sc) ∧ w12.cell? ⟨w.heap.size, 3, none⟩ = some (.slice pa G.prods.length pc) ∧ w12.cell? ⟨w.heap.size, 4, none⟩ = some (.int .i64 G.start) := ⟨d0, d1, d2, d3, d4⟩
      refine anyT_take (i := 14) (oi := { dst := some 87, op := Op.pick (Operand.tmp 81) (Operand.tmp 86) (Operand.const (Value.bool false)), type := 4, pos := "law.go:57", after := #[{ on := 8, ground := Ground.data }, { on := 13, ground := Ground.data }], guard := none }) (v := ?_) rfl (by kernel_rfl) (by kernel_rfl) (by kernel_rfl) (by decide) (by decide) (by kernel_rfl) (by kernel_rfl) (fun _ _ _ h => h) (Or.inl ⟨by rfl, ?_⟩) hd inv (fun inv => ?_)
      rotate_left
      · intro w hSw
        try dsimp only at hSw
        go_simp
        try with_reducible rfl
      simp only [Act.put, List.setIfInBounds_toArray, List.set_cons_zero, List.set_cons_succ]
      refine anyT_take (i := 15) (oi := { dst := some 88, op := Op.move (Operand.tmp 87), type := 4, pos := "law.go:57", after := #[{ on := 14, ground := Ground.data }, { on := 13, ground := Ground.chain }], guard := none }) (v := ?_) rfl (by kernel_rfl) (by kernel_rfl) (by kernel_rfl) (by decide) (by decide) (by kernel_rfl) (by kernel_rfl) (fun _ _ _ h => h) (Or.inl ⟨by rfl, ?_⟩) hd inv (fun inv => ?_)
      rotate_left
      · intro w hSw
        try dsimp only at hSw
        go_simp
        try with_reducible rfl
      simp only [Act.put, List.setIfInBounds_toArray, List.set_cons_zero, List.set_cons_succ]
      refine anyT_take (i := 16) (oi := { dst := some 89, op := Op.load 27 (Operand.tmp 3), type := 27, pos := "law.go:57", after := #[{ on := 15, ground := Ground.guard }], guard := some (15, true) }) (v := ?_) rfl (by kernel_rfl) (by kernel_rfl) (by kernel_rfl) (by decide) (by decide) (by kernel_rfl) (by kernel_rfl) (fun _ _ _ h => h) (Or.inl ⟨by rfl, ?_⟩) hd inv (fun inv => ?_)
      rotate_left
      · intro w hSw
        try dsimp only at hSw
        go_simp
        try with_reducible rfl
      simp only [Act.put, List.setIfInBounds_toArray, List.set_cons_zero, List.set_cons_succ]
      refine anyT_take (i := 17) (oi := { dst := some 90, op := Op.move (Operand.tmp 1), type := 28, pos := "law.go:57", after := #[{ on := 15, ground := Ground.guard }], guard := some (15, true) }) (v := ?_) rfl (by kernel_rfl) (by kernel_rfl) (by kernel_rfl) (by decide) (by decide) (by kernel_rfl) (by kernel_rfl) (fun _ _ _ h => h) (Or.inl ⟨by rfl, ?_⟩) hd inv (fun inv => ?_)
      rotate_left
      · intro w hSw
        try dsimp only at hSw
        go_simp
        try with_reducible rfl
      simp only [Act.put, List.setIfInBounds_toArray, List.set_cons_zero, List.set_cons_succ]
      refine anyT_take (i := 18) (oi := { dst := some 91, op := Op.move (Operand.tmp 2), type := 30, pos := "law.go:57", after := #[{ on := 15, ground := Ground.guard }], guard := some (15, true) }) (v := ?_) rfl (by kernel_rfl) (by kernel_rfl) (by kernel_rfl) (by decide) (by decide) (by kernel_rfl) (by kernel_rfl) (fun _ _ _ h => h) (Or.inl ⟨by rfl, ?_⟩) hd inv (fun inv => ?_)
      rotate_left
      · intro w hSw
        try dsimp only at hSw
        go_simp
        try with_reducible rfl
      simp only [Act.put, List.setIfInBounds_toArray, List.set_cons_zero, List.set_cons_succ]
      refine anyT_take (i := 20) (oi := { dst := some 93, op := Op.load 27 (Operand.tmp 3), type := 27, pos := "law.go:57", after := #[{ on := 15, ground := Ground.guard }], guard := some (15, true) }) (v := ?_) rfl (by kernel_rfl) (by kernel_rfl) (by kernel_rfl) (by decide) (by decide) (by kernel_rfl) (by kernel_rfl) (fun _ _ _ h => h) (Or.inl ⟨by rfl, ?_⟩) hd inv (fun inv => ?_)
      rotate_left
      · intro w hSw
        try dsimp only at hSw
        go_simp
        try with_reducible rfl
      simp only [Act.put, List.setIfInBounds_toArray, List.set_cons_zero, List.set_cons_succ]
      refine anyT_take (i := 21) (oi := { dst := some 94, op := Op.move (Operand.tmp 1), type := 28, pos := "law.go:57", after := #[{ on := 15, ground := Ground.guard }], guard := some (15, true) }) (v := ?_) rfl (by kernel_rfl) (by kernel_rfl) (by kernel_rfl) (by decide) (by decide) (by kernel_rfl) (by kernel_rfl) (fun _ _ _ h => h) (Or.inl ⟨by rfl, ?_⟩) hd inv (fun inv => ?_)
      rotate_left
      · intro w hSw
        try dsimp only at hSw
        go_simp
        try with_reducible rfl
      simp only [Act.put, List.setIfInBounds_toArray, List.set_cons_zero, List.set_cons_succ]
      refine anyT_take (i := 22) (oi := { dst := some 95, op := Op.move (Operand.tmp 2), type := 30, pos := "law.go:57", after := #[{ on := 15, ground := Ground.guard }], guard := some (15, true) }) (v := ?_) rfl (by kernel_rfl) (by kernel_rfl) (by kernel_rfl) (by decide) (by decide) (by kernel_rfl) (by kernel_rfl) (fun _ _ _ h => h) (Or.inl ⟨by rfl, ?_⟩) hd inv (fun inv => ?_)
      rotate_left
      · intro w hSw
        try dsimp only at hSw
        go_simp
        try with_reducible rfl
      simp only [Act.put, List.setIfInBounds_toArray, List.set_cons_zero, List.set_cons_succ]
      clear hd
      refine anyT_next (i := 19) (o := { dst := some 92, op := Op.call { callee := Callee.value (Operand.func 21), args := #[Operand.tmp 89, Operand.tmp 90, Operand.tmp 91], argTypes := #[27, 28, 30] }, type := 30, pos := "law.go:57", after := #[{ on := 16, ground := Ground.data }, { on := 17, ground := Ground.data }, { on := 18, ground := Ground.data }, { on := 15, ground := Ground.chain }, { on := 15, ground := Ground.guard }], guard := some (15, true) }) (by kernel_rfl) rfl (by decide) inv (fun inv K' hK => ?_)
      go_simp
      refine (kO21.out _ (hB0.trans (hR.mono hB0.size)) (HLq.out.mono hR)).mono ?_
      rintro e w13 ⟨x1, rfl, hO1, hBq⟩
      replace hR := hR.trans (hBq.mono hR.size)
      replace d0 := cell_below hBq d0
      replace d1 := cell_below hBq d1
      replace d2 := cell_below hBq d2
      replace d3 := cell_below hBq d3
      replace d4 := cell_below hBq d4
      clear hBq
      go_wp2_with fail
      refine hK.out _ _ ⟨d0, d1, d2, d3, d4⟩ ?_
      clear hK K'
      try simp only [Act.put, List.setIfInBounds_toArray, List.set_cons_zero, List.set_cons_succ]
      refine anyT_next (i := 23) (o := { dst := some 96, op := Op.call { callee := Callee.value (Operand.func 22), args := #[Operand.tmp 93, Operand.tmp 94, Operand.tmp 95], argTypes := #[27, 28, 30] }, type := 30, pos := "law.go:57", after := #[{ on := 20, ground := Ground.data }, { on := 21, ground := Ground.data }, { on := 22, ground := Ground.data }, { on := 19, ground := Ground.chain }, { on := 15, ground := Ground.guard }], guard := some (15, true) }) (by kernel_rfl) rfl (by decide) inv (fun inv K' hK => ?_)
      go_simp
      refine (kO22.out _ (hB0.trans (hR.mono hB0.size)) (HLq.out.mono hR)).mono ?_
      rintro e w14 ⟨x2, rfl, hO2, hBq⟩
      obtain rfl := hO1.same hO2
      replace hR := hR.trans (hBq.mono hR.size)
      replace d0 := cell_below hBq d0
      replace d1 := cell_below hBq d1
      replace d2 := cell_below hBq d2
      replace d3 := cell_below hBq d3
      replace d4 := cell_below hBq d4
      clear hBq hO1 hO2
      go_wp2_with fail
      refine hK.out _ _ ⟨d0, d1, d2, d3, d4⟩ ?_
      clear hK K'
      try simp only [Act.put, List.setIfInBounds_toArray, List.set_cons_zero, List.set_cons_succ]
      have hd : w14.cell? ⟨w.heap.size, 0, none⟩ = some (.slice ta nt tc) ∧ w14.cell? ⟨w.heap.size, 1, none⟩ = some ov ∧ w14.cell? ⟨w.heap.size, 2, none⟩ = some (.slice sa ns sc) ∧ w14.cell? ⟨w.heap.size, 3, none⟩ = some (.slice pa G.prods.length pc) ∧ w14.cell? ⟨w.heap.size, 4, none⟩ = some (.int .i64 G.start) := ⟨d0, d1, d2, d3, d4⟩
      refine anyT_take (i := 24) (oi := { dst := some 97, op := Op.binOp BinOp.eql 30 (Operand.tmp 92) (Operand.tmp 96) 30, type := 4, pos := "law.go:57", after := #[{ on := 19, ground := Ground.data }, { on := 23, ground := Ground.data }, { on := 15, ground := Ground.guard }], guard := some (15, true) }) (v := ?_) rfl (by kernel_rfl) (by kernel_rfl) (by kernel_rfl) (by decide) (by decide) (by kernel_rfl) (by kernel_rfl) (fun _ _ _ h => h) (Or.inl ⟨by rfl, ?_⟩) hd inv (fun inv => ?_)
      rotate_left
      · intro w hSw
        try dsimp only at hSw
        go_simp
        try with_reducible rfl
      simp only [Act.put, List.setIfInBounds_toArray, List.set_cons_zero, List.set_cons_succ]
      refine anyT_take (i := 25) (oi := { dst := some 98, op := Op.pick (Operand.tmp 88) (Operand.tmp 97) (Operand.const (Value.bool false)), type := 4, pos := "law.go:57", after := #[{ on := 15, ground := Ground.data }, { on := 24, ground := Ground.data }], guard := none }) (v := ?_) rfl (by kernel_rfl) (by kernel_rfl) (by kernel_rfl) (by decide) (by decide) (by kernel_rfl) (by kernel_rfl) (fun _ _ _ h => h) (Or.inl ⟨by rfl, ?_⟩) hd inv (fun inv => ?_)
      rotate_left
      · intro w hSw
        try dsimp only at hSw
        go_simp
        try with_reducible rfl
      simp only [Act.put, List.setIfInBounds_toArray, List.set_cons_zero, List.set_cons_succ]
      refine anyT_one (i := 26) (o := { dst := some 6, op := Op.assign (Operand.tmp 98), type := 4, pos := "law.go:57", after := #[{ on := 25, ground := Ground.data }, { on := 23, ground := Ground.chain }, { on := 0, ground := Ground.phase }, { on := 1, ground := Ground.phase }, { on := 2, ground := Ground.phase }, { on := 3, ground := Ground.phase }, { on := 4, ground := Ground.phase }, { on := 5, ground := Ground.phase }, { on := 6, ground := Ground.phase }, { on := 7, ground := Ground.phase }, { on := 8, ground := Ground.phase }, { on := 9, ground := Ground.phase }, { on := 10, ground := Ground.phase }, { on := 11, ground := Ground.phase }, { on := 12, ground := Ground.phase }, { on := 13, ground := Ground.phase }, { on := 14, ground := Ground.phase }, { on := 15, ground := Ground.phase }, { on := 16, ground := Ground.phase }, { on := 17, ground := Ground.phase }, { on := 18, ground := Ground.phase }, { on := 19, ground := Ground.phase }, { on := 20, ground := Ground.phase }, { on := 21, ground := Ground.phase }, { on := 22, ground := Ground.phase }, { on := 23, ground := Ground.phase }, { on := 24, ground := Ground.phase }, { on := 25, ground := Ground.phase }], guard := none }) (by kernel_rfl) rfl (fun K' hK => ?_)
      go_simp
      refine hK.out _ _ (fun h => absurd h (by decide)) ?_
      clear hK K'
      try simp only [Act.put, List.setIfInBounds_toArray, List.set_cons_zero, List.set_cons_succ]
      refine anyT_done (by kernel_rfl) ?_ _
      go_wp2
      go_ret
      exact ⟨rfl, hb.trans ((hB0.trans (hR.mono hB0.size)).mono hsz)⟩

end Go.Proofs.Ytmfobiimihaiiaa
