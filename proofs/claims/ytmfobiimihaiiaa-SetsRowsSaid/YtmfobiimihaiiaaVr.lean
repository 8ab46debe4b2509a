/- The walk of the law SetsRows. -/
import Derived.Test.YtmfobiimihaiiaaMl
import Derived.Test.YtmfobiimihaiiaaLw
import Derived.Test.YtmfobiimihaiiaaHp
import Derived.Test.YtmfobiimihaiiaaHt3
namespace Go.Proofs.Ytmfobiimihaiiaa
open Go Go.RowKit Go.Lib Go.Joins

theorem ofRow_append (nt : Nat) (E : List Bool) (F : List Nat) (b : List Int) (x : Nat) : ∀ a : List Int, ofRow nt E F (a ++ b) x = ofRow nt E F a (ofRow nt E F b x)
  | [] => rfl
  | s :: a => by
    rw [List.cons_append]
    unfold ofRow
    rw [ofRow_append nt E F b x a]

set_option maxRecDepth 100000 in
set_option maxHeartbeats 4000000 in
theorem rows_walk {G : GD} {gv tv ov sv pv : Value} {tf : Nat → Nat → Value} {rv : Nat → Value} {w : World} (h : GrAt w gv G tv ov sv pv tf rv) (A A' : Option Addr) (l l' : List Int) (c c' : Nat) (hl : IntsAt w (.slice A l.length c) l) (hA : A = none → c = 0)
    (hl' : IntsAt w (.slice A' l'.length c') l') (hA' : A' = none → c' = 0) (b : Nat) (hb0 : b < top) :
    Calls Try.prog 6 #[gv, .slice A l.length c, .slice A' l'.length c', u64 b] w fun e w' => e = .returned (.bool true) ∧ Below w.heap.size w w' := by
  obtain ⟨W1, B, hW1, hB, c0, c1, c2, c3, c4, hG, hb, hsz⟩ := gr_box h
  subst hB
  have kw := hid (works_any W1)
  have kf := hid fun (W' : World) (hb : Below W1.heap.size W1 W') => few_any (hG.mono hb)
  have kv := hid fun (W' : World) (hb : Below W1.heap.size W1 W') => Valid_any (hG.mono hb)
  have hgv := h.eq
  have hs := hG.sorts
  have ht := hG.terms
  have hp := hG.prods
  subst hgv
  obtain ⟨sa, sc, rfl, hsn, hs⟩ := hs
  obtain ⟨ta, tc, rfl, htn, ht⟩ := ht
  obtain ⟨pa, pc, rfl, hpn, hp⟩ := hp
  have HSC := hid hs
  have HTC := hid ht
  have HPC := hid hp
  clear hs ht hp
  have kO := hid fun hV (W' : World) (hb : Below W1.heap.size W1 W') (lv : Value) (l : List Int) (b : Nat) (hl : IntsAt W' lv l) (hb0 : b < top) => Of_any (hG.mono hb) hV hl hb0
  clear h hG
  have HL := hid hl
  have HA := hid hA
  have HL' := hid hl'
  have HA' := hid hA'
  clear hl hA hl' hA'
  generalize hfb : decide (fewG G) = fb at *
  generalize hvb : validB G = vb at *
  generalize hns : G.sorts.length = ns at *
  generalize hnt : G.terms.length = nt at *
  generalize hm : l.length = m at *
  generalize hm' : l'.length = m' at *
  cases fb
  · go_enter Try.func6, Try.ntmps6
    go_wp2_with fail
    rw [← hW1]
    clear hW1
    refine kw.out.mono ?_
    rintro e w1 ⟨rfl, hBx⟩
    have d0 := cell_below hBx c0
    have d1 := cell_below hBx c1
    have d2 := cell_below hBx c2
    have d3 := cell_below hBx c3
    have d4 := cell_below hBx c4
    clear c0 c1 c2 c3 c4
    go_wp2_with fail
    refine (kf.out _ hBx).mono ?_
    rintro e w2 ⟨rfl, hBq⟩
    replace d0 := cell_below hBq d0
    replace d1 := cell_below hBq d1
    replace d2 := cell_below hBq d2
    replace d3 := cell_below hBq d3
    replace d4 := cell_below hBq d4
    replace hBx := hBx.trans (hBq.mono hBx.size)
    clear hBq
    go_wp2_with fail
    go_ret
    exact ⟨rfl, hb.trans (hBx.mono hsz)⟩
  by_cases hm1 : (30 : Int) < (m : Int)
  · go_enter Try.func6, Try.ntmps6
    go_wp2_with fail
    rw [← hW1]
    clear hW1
    refine kw.out.mono ?_
    rintro e w1 ⟨rfl, hBx⟩
    have d0 := cell_below hBx c0
    have d1 := cell_below hBx c1
    have d2 := cell_below hBx c2
    have d3 := cell_below hBx c3
    have d4 := cell_below hBx c4
    clear c0 c1 c2 c3 c4
    go_wp2_with fail
    refine (kf.out _ hBx).mono ?_
    rintro e w2 ⟨rfl, hBq⟩
    replace d0 := cell_below hBq d0
    replace d1 := cell_below hBq d1
    replace d2 := cell_below hBq d2
    replace d3 := cell_below hBq d3
    replace d4 := cell_below hBq d4
    replace hBx := hBx.trans (hBq.mono hBx.size)
    clear hBq
    go_wp2_with fail
    go_ret
    exact ⟨rfl, hb.trans (hBx.mono hsz)⟩
  have hm2 : (m : Int) ≤ 30 := by omega
  by_cases hm3 : (30 : Int) < (m' : Int)
  · go_enter Try.func6, Try.ntmps6
    go_wp2_with fail
    rw [← hW1]
    clear hW1
    refine kw.out.mono ?_
    rintro e w1 ⟨rfl, hBx⟩
    have d0 := cell_below hBx c0
    have d1 := cell_below hBx c1
    have d2 := cell_below hBx c2
    have d3 := cell_below hBx c3
    have d4 := cell_below hBx c4
    clear c0 c1 c2 c3 c4
    go_wp2_with fail
    refine (kf.out _ hBx).mono ?_
    rintro e w2 ⟨rfl, hBq⟩
    replace d0 := cell_below hBq d0
    replace d1 := cell_below hBq d1
    replace d2 := cell_below hBq d2
    replace d3 := cell_below hBq d3
    replace d4 := cell_below hBq d4
    replace hBx := hBx.trans (hBq.mono hBx.size)
    clear hBq
    go_wp2_with fail
    go_ret
    exact ⟨rfl, hb.trans (hBx.mono hsz)⟩
  have hm4 : (m' : Int) ≤ 30 := by omega
  cases vb
  · go_enter Try.func6, Try.ntmps6
    go_wp2_with fail
    rw [← hW1]
    clear hW1
    refine kw.out.mono ?_
    rintro e w1 ⟨rfl, hBx⟩
    have d0 := cell_below hBx c0
    have d1 := cell_below hBx c1
    have d2 := cell_below hBx c2
    have d3 := cell_below hBx c3
    have d4 := cell_below hBx c4
    clear c0 c1 c2 c3 c4
    go_wp2_with fail
    refine (kf.out _ hBx).mono ?_
    rintro e w2 ⟨rfl, hBq⟩
    replace d0 := cell_below hBq d0
    replace d1 := cell_below hBq d1
    replace d2 := cell_below hBq d2
    replace d3 := cell_below hBq d3
    replace d4 := cell_below hBq d4
    replace hBx := hBx.trans (hBq.mono hBx.size)
    clear hBq
    go_wp2_with fail
    refine (kv.out _ hBx).mono ?_
    rintro e w2 ⟨rfl, hBq⟩
    replace d0 := cell_below hBq d0
    replace d1 := cell_below hBq d1
    replace d2 := cell_below hBq d2
    replace d3 := cell_below hBq d3
    replace d4 := cell_below hBq d4
    replace hBx := hBx.trans (hBq.mono hBx.size)
    clear hBq
    go_wp2_with fail
    go_ret
    exact ⟨rfl, hb.trans (hBx.mono hsz)⟩
  have HM := hid hm
  have HM' := hid hm'
  clear hm hm'
  go_enter Try.func6, Try.ntmps6
  go_wp2_with fail
  rw [← hW1]
  clear hW1
  refine kw.out.mono ?_
  rintro e w1 ⟨rfl, hBx⟩
  have d0 := cell_below hBx c0
  have d1 := cell_below hBx c1
  have d2 := cell_below hBx c2
  have d3 := cell_below hBx c3
  have d4 := cell_below hBx c4
  clear c0 c1 c2 c3 c4
  go_wp2_with fail
  refine (kf.out _ hBx).mono ?_
  rintro e w2 ⟨rfl, hBq⟩
  replace d0 := cell_below hBq d0
  replace d1 := cell_below hBq d1
  replace d2 := cell_below hBq d2
  replace d3 := cell_below hBq d3
  replace d4 := cell_below hBq d4
  replace hBx := hBx.trans (hBq.mono hBx.size)
  clear hBq
  go_wp2_with fail
  refine (kv.out _ hBx).mono ?_
  rintro e w2 ⟨rfl, hBq⟩
  replace d0 := cell_below hBq d0
  replace d1 := cell_below hBq d1
  replace d2 := cell_below hBq d2
  replace d3 := cell_below hBq d3
  replace d4 := cell_below hBq d4
  replace hBx := hBx.trans (hBq.mono hBx.size)
  clear hBq
  have HLw := hid (HL.out.mono (hb.trans (hBx.mono hsz)))
  have HLw' := hid (HL'.out.mono (hb.trans (hBx.mono hsz)))
  go_wp2_with (first
    | (at_builtin
       refine app_syms rfl (.tmp 35) (.tmp 36) rfl w2.heap.size (.slice none 0 0) 0 [] rfl (World.ownsRow_nil _ _ _ _) A m c l rfl HM.out (ints_cells HLw.out) HA.out (by omega) (Nat.le_refl _) ?_
       intro v5 w5 own5 hb5
       have HB5 := hid hb5
       clear hb5)
    | (at_builtin
       refine app_syms rfl (.tmp 38) (.tmp 39) rfl w2.heap.size v5 (0 + m) ([] ++ l.map (.int .i64)) rfl own5 A' m' c' l' rfl HM'.out (ints_cells (HLw'.out.mono HB5.out)) HA'.out (by omega) HB5.out.size ?_
       intro v6 w6 own6 hb6
       have HB6 := hid (HB5.out.trans hb6)
       replace d0 := cell_below HB6.out d0
       replace d1 := cell_below HB6.out d1
       replace d2 := cell_below HB6.out d2
       replace d3 := cell_below HB6.out d3
       replace d4 := cell_below HB6.out d4
       have HI := hid (ints_of_own (l := l ++ l') (n := 0 + m + m') (by simpa using own6) (by omega) (fun x hx => by
         rcases List.mem_append.1 hx with hx | hx
         · exact HLw.out.2 x hx
         · exact HLw'.out.2 x hx))
       clear own6 own5 hb6))
  have hB6 := hBx.trans (HB6.out.mono hBx.size)
  have IA := hid (HLw.out.mono HB6.out)
  have IB := hid (HLw'.out.mono HB6.out)
  refine region_T 22 (fun w' => w'.cell? ⟨w.heap.size, 0, none⟩ = some (.slice ta nt tc) ∧ w'.cell? ⟨w.heap.size, 1, none⟩ = some ov ∧ w'.cell? ⟨w.heap.size, 2, none⟩ = some (.slice sa ns sc) ∧ w'.cell? ⟨w.heap.size, 3, none⟩ = some (.slice pa G.prods.length pc) ∧ w'.cell? ⟨w.heap.size, 4, none⟩ = some (.int .i64 G.start)) (by kernel_rfl) ⟨d0, d1, d2, d3, d4⟩ (fun inv hHeld => ?_)
  refine anyT_take (i := 0) (oi := { dst := some 41, op := Op.move (Operand.tmp 9), type := 4, pos := "law.go:134", after := #[], guard := none }) (v := ?_) rfl (by kernel_rfl) (by kernel_rfl) (by kernel_rfl) (by decide) (by decide) (by kernel_rfl) (by kernel_rfl) (fun _ _ _ h => h) (Or.inl ⟨by rfl, ?_⟩) hHeld inv (fun inv => ?_)
  rotate_left
  · intro w hSw
    try dsimp only at hSw
    go_simp
    try with_reducible rfl
  simp only [Act.put, List.setIfInBounds_toArray, List.set_cons_zero, List.set_cons_succ]
  refine anyT_take (i := 1) (oi := { dst := some 42, op := Op.move (Operand.tmp 41), type := 4, pos := "law.go:134", after := #[{ on := 0, ground := Ground.data }], guard := none }) (v := ?_) rfl (by kernel_rfl) (by kernel_rfl) (by kernel_rfl) (by decide) (by decide) (by kernel_rfl) (by kernel_rfl) (fun _ _ _ h => h) (Or.inl ⟨by rfl, ?_⟩) hHeld inv (fun inv => ?_)
  rotate_left
  · intro w hSw
    try dsimp only at hSw
    go_simp
    try with_reducible rfl
  simp only [Act.put, List.setIfInBounds_toArray, List.set_cons_zero, List.set_cons_succ]
  refine anyT_take (i := 2) (oi := { dst := some 43, op := Op.load 27 (Operand.tmp 4), type := 27, pos := "law.go:134", after := #[{ on := 1, ground := Ground.guard }], guard := some (1, true) }) (v := ?_) rfl (by kernel_rfl) (by kernel_rfl) (by kernel_rfl) (by decide) (by decide) (by kernel_rfl) (by kernel_rfl) (fun _ _ _ h => h) (Or.inl ⟨by rfl, ?_⟩) hHeld inv (fun inv => ?_)
  rotate_left
  · intro w hSw
    try dsimp only at hSw
    go_simp
    try with_reducible rfl
  simp only [Act.put, List.setIfInBounds_toArray, List.set_cons_zero, List.set_cons_succ]
  refine anyT_take (i := 3) (oi := { dst := some 44, op := Op.move (Operand.tmp 11), type := 28, pos := "law.go:134", after := #[{ on := 1, ground := Ground.guard }], guard := some (1, true) }) (v := ?_) rfl (by kernel_rfl) (by kernel_rfl) (by kernel_rfl) (by decide) (by decide) (by kernel_rfl) (by kernel_rfl) (fun _ _ _ h => h) (Or.inl ⟨by rfl, ?_⟩) hHeld inv (fun inv => ?_)
  rotate_left
  · intro w hSw
    try dsimp only at hSw
    go_simp
    try with_reducible rfl
  simp only [Act.put, List.setIfInBounds_toArray, List.set_cons_zero, List.set_cons_succ]
  refine anyT_take (i := 4) (oi := { dst := some 45, op := Op.move (Operand.tmp 3), type := 30, pos := "law.go:134", after := #[{ on := 1, ground := Ground.guard }], guard := some (1, true) }) (v := ?_) rfl (by kernel_rfl) (by kernel_rfl) (by kernel_rfl) (by decide) (by decide) (by kernel_rfl) (by kernel_rfl) (fun _ _ _ h => h) (Or.inl ⟨by rfl, ?_⟩) hHeld inv (fun inv => ?_)
  rotate_left
  · intro w hSw
    try dsimp only at hSw
    go_simp
    try with_reducible rfl
  simp only [Act.put, List.setIfInBounds_toArray, List.set_cons_zero, List.set_cons_succ]
  refine anyT_take (i := 6) (oi := { dst := some 47, op := Op.load 27 (Operand.tmp 4), type := 27, pos := "law.go:134", after := #[{ on := 1, ground := Ground.guard }], guard := some (1, true) }) (v := ?_) rfl (by kernel_rfl) (by kernel_rfl) (by kernel_rfl) (by decide) (by decide) (by kernel_rfl) (by kernel_rfl) (fun _ _ _ h => h) (Or.inl ⟨by rfl, ?_⟩) hHeld inv (fun inv => ?_)
  rotate_left
  · intro w hSw
    try dsimp only at hSw
    go_simp
    try with_reducible rfl
  simp only [Act.put, List.setIfInBounds_toArray, List.set_cons_zero, List.set_cons_succ]
  refine anyT_take (i := 7) (oi := { dst := some 48, op := Op.move (Operand.tmp 1), type := 28, pos := "law.go:134", after := #[{ on := 1, ground := Ground.guard }], guard := some (1, true) }) (v := ?_) rfl (by kernel_rfl) (by kernel_rfl) (by kernel_rfl) (by decide) (by decide) (by kernel_rfl) (by kernel_rfl) (fun _ _ _ h => h) (Or.inl ⟨by rfl, ?_⟩) hHeld inv (fun inv => ?_)
  rotate_left
  · intro w hSw
    try dsimp only at hSw
    go_simp
    try with_reducible rfl
  simp only [Act.put, List.setIfInBounds_toArray, List.set_cons_zero, List.set_cons_succ]
  refine anyT_take (i := 8) (oi := { dst := some 49, op := Op.load 27 (Operand.tmp 4), type := 27, pos := "law.go:134", after := #[{ on := 1, ground := Ground.guard }], guard := some (1, true) }) (v := ?_) rfl (by kernel_rfl) (by kernel_rfl) (by kernel_rfl) (by decide) (by decide) (by kernel_rfl) (by kernel_rfl) (fun _ _ _ h => h) (Or.inl ⟨by rfl, ?_⟩) hHeld inv (fun inv => ?_)
  rotate_left
  · intro w hSw
    try dsimp only at hSw
    go_simp
    try with_reducible rfl
  simp only [Act.put, List.setIfInBounds_toArray, List.set_cons_zero, List.set_cons_succ]
  refine anyT_take (i := 9) (oi := { dst := some 50, op := Op.move (Operand.tmp 2), type := 28, pos := "law.go:134", after := #[{ on := 1, ground := Ground.guard }], guard := some (1, true) }) (v := ?_) rfl (by kernel_rfl) (by kernel_rfl) (by kernel_rfl) (by decide) (by decide) (by kernel_rfl) (by kernel_rfl) (fun _ _ _ h => h) (Or.inl ⟨by rfl, ?_⟩) hHeld inv (fun inv => ?_)
  rotate_left
  · intro w hSw
    try dsimp only at hSw
    go_simp
    try with_reducible rfl
  simp only [Act.put, List.setIfInBounds_toArray, List.set_cons_zero, List.set_cons_succ]
  refine anyT_take (i := 10) (oi := { dst := some 51, op := Op.move (Operand.tmp 3), type := 30, pos := "law.go:134", after := #[{ on := 1, ground := Ground.guard }], guard := some (1, true) }) (v := ?_) rfl (by kernel_rfl) (by kernel_rfl) (by kernel_rfl) (by decide) (by decide) (by kernel_rfl) (by kernel_rfl) (fun _ _ _ h => h) (Or.inl ⟨by rfl, ?_⟩) hHeld inv (fun inv => ?_)
  rotate_left
  · intro w hSw
    try dsimp only at hSw
    go_simp
    try with_reducible rfl
  simp only [Act.put, List.setIfInBounds_toArray, List.set_cons_zero, List.set_cons_succ]
  refine anyT_next (i := 5) (o := { dst := some 46, op := Op.call { callee := Callee.value (Operand.func 21), args := #[Operand.tmp 43, Operand.tmp 44, Operand.tmp 45], argTypes := #[27, 28, 30] }, type := 30, pos := "law.go:134", after := #[{ on := 2, ground := Ground.data }, { on := 3, ground := Ground.data }, { on := 4, ground := Ground.data }, { on := 1, ground := Ground.chain }, { on := 1, ground := Ground.guard }], guard := some (1, true) }) (by kernel_rfl) rfl (by decide) inv (fun inv K' hK => ?_)
  go_simp
  refine (kO.out (by simp) _ hB6.drew v6 (l ++ l') b HI.out hb0).mono ?_
  rintro e w7 ⟨E, F, rfl, hE, hF, hBq⟩
  have hB7 := hB6.trans ((below_undrew hBq).mono hB6.size)
  have IA := hid (IA.out.mono (below_undrew hBq))
  have IB := hid (IB.out.mono (below_undrew hBq))
  replace d0 := cell_below hBq d0
  replace d1 := cell_below hBq d1
  replace d2 := cell_below hBq d2
  replace d3 := cell_below hBq d3
  replace d4 := cell_below hBq d4
  have hlt := ofRow_lt nt E hF.2.2 l' hb0
  have HAP := hid (ofRow_append nt E F l' b l)
  rw [HAP.out]
  have HE := hid hE
  have HF := hid hF
  clear hBq hE hF
  generalize hY : ofRow nt E F l' b = y at *
  generalize hZ : ofRow nt E F l y = z at *
  have HY := hid hY
  have HZ := hid hZ
  clear hY hZ
  go_wp2_with fail
  refine hK.out _ _ ⟨d0, d1, d2, d3, d4⟩ ?_
  clear hK K'
  try simp only [Act.put, List.setIfInBounds_toArray, List.set_cons_zero, List.set_cons_succ]
  refine anyT_next (i := 11) (o := { dst := some 52, op := Op.call { callee := Callee.value (Operand.func 21), args := #[Operand.tmp 49, Operand.tmp 50, Operand.tmp 51], argTypes := #[27, 28, 30] }, type := 30, pos := "law.go:134", after := #[{ on := 8, ground := Ground.data }, { on := 9, ground := Ground.data }, { on := 10, ground := Ground.data }, { on := 5, ground := Ground.chain }, { on := 1, ground := Ground.guard }], guard := some (1, true) }) (by kernel_rfl) rfl (by decide) inv (fun inv K' hK => ?_)
  go_simp
  refine (kO.out (by simp) _ hB7 _ l' b IB.out hb0).mono ?_
  rintro e w8 ⟨E', F', rfl, hE, hF, hBq⟩
  obtain rfl := HE.out.same hE
  obtain rfl : F' = F := hF.sameN HF.out (evF_mono _ _ _ _)
  rw [HY.out]
  have hB8 := hB7.trans (hBq.mono hB7.size)
  have IA := hid (IA.out.mono hBq)
  replace d0 := cell_below hBq d0
  replace d1 := cell_below hBq d1
  replace d2 := cell_below hBq d2
  replace d3 := cell_below hBq d3
  replace d4 := cell_below hBq d4
  clear hBq hE hF
  go_wp2_with fail
  refine hK.out _ _ ⟨d0, d1, d2, d3, d4⟩ ?_
  clear hK K'
  try simp only [Act.put, List.setIfInBounds_toArray, List.set_cons_zero, List.set_cons_succ]
  refine anyT_next (i := 12) (o := { dst := some 53, op := Op.call { callee := Callee.value (Operand.func 21), args := #[Operand.tmp 47, Operand.tmp 48, Operand.tmp 52], argTypes := #[27, 28, 30] }, type := 30, pos := "law.go:134", after := #[{ on := 6, ground := Ground.data }, { on := 7, ground := Ground.data }, { on := 11, ground := Ground.data }, { on := 11, ground := Ground.chain }, { on := 1, ground := Ground.guard }], guard := some (1, true) }) (by kernel_rfl) rfl (by decide) inv (fun inv K' hK => ?_)
  go_simp
  refine (kO.out (by simp) _ hB8 _ l y IA.out hlt).mono ?_
  rintro e w9 ⟨E', F'', rfl, hE, hF, hBq⟩
  obtain rfl := HE.out.same hE
  obtain rfl : F'' = F' := hF.sameN HF.out (evF_mono _ _ _ _)
  rw [HZ.out]
  have hB9 := hB8.trans (hBq.mono hB8.size)
  replace d0 := cell_below hBq d0
  replace d1 := cell_below hBq d1
  replace d2 := cell_below hBq d2
  replace d3 := cell_below hBq d3
  replace d4 := cell_below hBq d4
  clear hBq hE hF
  go_wp2_with fail
  refine hK.out _ _ ⟨d0, d1, d2, d3, d4⟩ ?_
  clear hK K'
  try simp only [Act.put, List.setIfInBounds_toArray, List.set_cons_zero, List.set_cons_succ]
  have hd : w9.cell? ⟨w.heap.size, 0, none⟩ = some (.slice ta nt tc) ∧ w9.cell? ⟨w.heap.size, 1, none⟩ = some ov ∧ w9.cell? ⟨w.heap.size, 2, none⟩ = some (.slice sa ns sc) ∧ w9.cell? ⟨w.heap.size, 3, none⟩ = some (.slice pa G.prods.length pc) ∧ w9.cell? ⟨w.heap.size, 4, none⟩ = some (.int .i64 G.start) := ⟨d0, d1, d2, d3, d4⟩
  refine anyT_take (i := 13) (oi := { dst := some 54, op := Op.binOp BinOp.eql 30 (Operand.tmp 46) (Operand.tmp 53) 30, type := 4, pos := "law.go:134", after := #[{ on := 5, ground := Ground.data }, { on := 12, ground := Ground.data }, { on := 1, ground := Ground.guard }], guard := some (1, true) }) (v := ?_) rfl (by kernel_rfl) (by kernel_rfl) (by kernel_rfl) (by decide) (by decide) (by kernel_rfl) (by kernel_rfl) (fun _ _ _ h => h) (Or.inl ⟨by rfl, ?_⟩) hd inv (fun inv => ?_)
  rotate_left
  · intro w hSw
    try dsimp only at hSw
    go_simp
    try with_reducible rfl
  simp only [Act.put, List.setIfInBounds_toArray, List.set_cons_zero, List.set_cons_succ]
  refine anyT_take (i := 14) (oi := { dst := some 55, op := Op.pick (Operand.tmp 42) (Operand.tmp 54) (Operand.const (Value.bool false)), type := 4, pos := "law.go:134", after := #[{ on := 1, ground := Ground.data }, { on := 13, ground := Ground.data }], guard := none }) (v := ?_) rfl (by kernel_rfl) (by kernel_rfl) (by kernel_rfl) (by decide) (by decide) (by kernel_rfl) (by kernel_rfl) (fun _ _ _ h => h) (Or.inl ⟨by rfl, ?_⟩) hd inv (fun inv => ?_)
  rotate_left
  · intro w hSw
    try dsimp only at hSw
    go_simp
    try with_reducible rfl
  simp only [Act.put, List.setIfInBounds_toArray, List.set_cons_zero, List.set_cons_succ]
  refine anyT_take (i := 15) (oi := { dst := some 56, op := Op.move (Operand.tmp 55), type := 4, pos := "law.go:134", after := #[{ on := 14, ground := Ground.data }, { on := 12, ground := Ground.chain }], guard := none }) (v := ?_) rfl (by kernel_rfl) (by kernel_rfl) (by kernel_rfl) (by decide) (by decide) (by kernel_rfl) (by kernel_rfl) (fun _ _ _ h => h) (Or.inl ⟨by rfl, ?_⟩) hd inv (fun inv => ?_)
  rotate_left
  · intro w hSw
    try dsimp only at hSw
    go_simp
    try with_reducible rfl
  simp only [Act.put, List.setIfInBounds_toArray, List.set_cons_zero, List.set_cons_succ]
  refine anyT_take (i := 16) (oi := { dst := some 57, op := Op.load 27 (Operand.tmp 4), type := 27, pos := "law.go:134", after := #[{ on := 15, ground := Ground.guard }], guard := some (15, true) }) (v := ?_) rfl (by kernel_rfl) (by kernel_rfl) (by kernel_rfl) (by decide) (by decide) (by kernel_rfl) (by kernel_rfl) (fun _ _ _ h => h) (Or.inl ⟨by rfl, ?_⟩) hd inv (fun inv => ?_)
  rotate_left
  · intro w hSw
    try dsimp only at hSw
    go_simp
    try with_reducible rfl
  simp only [Act.put, List.setIfInBounds_toArray, List.set_cons_zero, List.set_cons_succ]
  refine anyT_take (i := 17) (oi := { dst := some 58, op := Op.move (Operand.tmp 3), type := 30, pos := "law.go:134", after := #[{ on := 15, ground := Ground.guard }], guard := some (15, true) }) (v := ?_) rfl (by kernel_rfl) (by kernel_rfl) (by kernel_rfl) (by decide) (by decide) (by kernel_rfl) (by kernel_rfl) (fun _ _ _ h => h) (Or.inl ⟨by rfl, ?_⟩) hd inv (fun inv => ?_)
  rotate_left
  · intro w hSw
    try dsimp only at hSw
    go_simp
    try with_reducible rfl
  simp only [Act.put, List.setIfInBounds_toArray, List.set_cons_zero, List.set_cons_succ]
  refine anyT_take (i := 19) (oi := { dst := some 60, op := Op.move (Operand.tmp 3), type := 30, pos := "law.go:134", after := #[{ on := 15, ground := Ground.guard }], guard := some (15, true) }) (v := ?_) rfl (by kernel_rfl) (by kernel_rfl) (by kernel_rfl) (by decide) (by decide) (by kernel_rfl) (by kernel_rfl) (fun _ _ _ h => h) (Or.inl ⟨by rfl, ?_⟩) hd inv (fun inv => ?_)
  rotate_left
  · intro w hSw
    try dsimp only at hSw
    go_simp
    try with_reducible rfl
  simp only [Act.put, List.setIfInBounds_toArray, List.set_cons_zero, List.set_cons_succ]
  refine anyT_next (i := 18) (o := { dst := some 59, op := Op.call { callee := Callee.value (Operand.func 21), args := #[Operand.tmp 57, Operand.const (Value.slice none 0 0), Operand.tmp 58], argTypes := #[27, 28, 30] }, type := 30, pos := "law.go:134", after := #[{ on := 16, ground := Ground.data }, { on := 17, ground := Ground.data }, { on := 15, ground := Ground.chain }, { on := 15, ground := Ground.guard }], guard := some (15, true) }) (by kernel_rfl) rfl (by decide) inv (fun inv K' hK => ?_)
  go_simp
  refine (kO.out (by simp) _ hB9 _ [] b ⟨⟨none, 0, rfl, by decide, fun h => absurd h (by decide)⟩, by simp⟩ hb0).mono ?_
  rintro e w10 ⟨E', F'', rfl, _, _, hBq⟩
  have hB10 := hB9.trans (hBq.mono hB9.size)
  rw [show ofRow nt E' F'' [] b = b from rfl]
  replace d0 := cell_below hBq d0
  replace d1 := cell_below hBq d1
  replace d2 := cell_below hBq d2
  replace d3 := cell_below hBq d3
  replace d4 := cell_below hBq d4
  clear hBq hd
  go_wp2_with fail
  refine hK.out _ _ ⟨d0, d1, d2, d3, d4⟩ ?_
  clear hK K'
  try simp only [Act.put, List.setIfInBounds_toArray, List.set_cons_zero, List.set_cons_succ]
  have hd : w10.cell? ⟨w.heap.size, 0, none⟩ = some (.slice ta nt tc) ∧ w10.cell? ⟨w.heap.size, 1, none⟩ = some ov ∧ w10.cell? ⟨w.heap.size, 2, none⟩ = some (.slice sa ns sc) ∧ w10.cell? ⟨w.heap.size, 3, none⟩ = some (.slice pa G.prods.length pc) ∧ w10.cell? ⟨w.heap.size, 4, none⟩ = some (.int .i64 G.start) := ⟨d0, d1, d2, d3, d4⟩
  refine anyT_take (i := 20) (oi := { dst := some 61, op := Op.binOp BinOp.eql 30 (Operand.tmp 59) (Operand.tmp 60) 30, type := 4, pos := "law.go:134", after := #[{ on := 18, ground := Ground.data }, { on := 19, ground := Ground.data }, { on := 15, ground := Ground.guard }], guard := some (15, true) }) (v := ?_) rfl (by kernel_rfl) (by kernel_rfl) (by kernel_rfl) (by decide) (by decide) (by kernel_rfl) (by kernel_rfl) (fun _ _ _ h => h) (Or.inl ⟨by rfl, ?_⟩) hd inv (fun inv => ?_)
  rotate_left
  · intro w hSw
    try dsimp only at hSw
    go_simp
    try with_reducible rfl
  simp only [Act.put, List.setIfInBounds_toArray, List.set_cons_zero, List.set_cons_succ]
  refine anyT_take (i := 21) (oi := { dst := some 62, op := Op.pick (Operand.tmp 56) (Operand.tmp 61) (Operand.const (Value.bool false)), type := 4, pos := "law.go:134", after := #[{ on := 15, ground := Ground.data }, { on := 20, ground := Ground.data }], guard := none }) (v := ?_) rfl (by kernel_rfl) (by kernel_rfl) (by kernel_rfl) (by decide) (by decide) (by kernel_rfl) (by kernel_rfl) (fun _ _ _ h => h) (Or.inl ⟨by rfl, ?_⟩) hd inv (fun inv => ?_)
  rotate_left
  · intro w hSw
    try dsimp only at hSw
    go_simp
    try with_reducible rfl
  simp only [Act.put, List.setIfInBounds_toArray, List.set_cons_zero, List.set_cons_succ]
  refine anyT_one (i := 22) (o := { dst := some 8, op := Op.assign (Operand.tmp 62), type := 4, pos := "law.go:134", after := #[{ on := 21, ground := Ground.data }, { on := 18, ground := Ground.chain }, { on := 0, ground := Ground.phase }, { on := 1, ground := Ground.phase }, { on := 2, ground := Ground.phase }, { on := 3, ground := Ground.phase }, { on := 4, ground := Ground.phase }, { on := 5, ground := Ground.phase }, { on := 6, ground := Ground.phase }, { on := 7, ground := Ground.phase }, { on := 8, ground := Ground.phase }, { on := 9, ground := Ground.phase }, { on := 10, ground := Ground.phase }, { on := 11, ground := Ground.phase }, { on := 12, ground := Ground.phase }, { on := 13, ground := Ground.phase }, { on := 14, ground := Ground.phase }, { on := 15, ground := Ground.phase }, { on := 16, ground := Ground.phase }, { on := 17, ground := Ground.phase }, { on := 18, ground := Ground.phase }, { on := 19, ground := Ground.phase }, { on := 20, ground := Ground.phase }, { on := 21, ground := Ground.phase }], guard := none }) (by kernel_rfl) rfl (fun K' hK => ?_)
  go_simp
  refine hK.out _ _ (fun h => absurd h (by decide)) ?_
  clear hK K'
  try simp only [Act.put, List.setIfInBounds_toArray, List.set_cons_zero, List.set_cons_succ]
  refine anyT_done (by kernel_rfl) ?_ _
  go_wp2
  go_ret
  exact ⟨rfl, hb.trans (hB10.mono hsz)⟩

end Go.Proofs.Ytmfobiimihaiiaa
