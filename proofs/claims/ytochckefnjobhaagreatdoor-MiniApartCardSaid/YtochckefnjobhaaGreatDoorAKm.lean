/- mini.Least. -/
import Derived.Test.YtochckefnjobhaaGreatDoorAKk
import Derived.Test.YtochckefnjobhaaGreatDoorUu
namespace Go.Proofs.YtochckefnjobhaaGreatDoor
open Go Go.RowKit Go.Lib
open X5 (Aut)
set_option linter.unusedVariables false
set_option linter.unusedSimpArgs false
theorem anyT_two {P : Program} {ops : Array Oper} {Q : Exit → Act → World → Prop} {md : Region.Mode} {S : World → Prop} {n i k : Nat} {o p : Oper} {fuel : Nat} {listed : Array Bool} {a : Act} {w : World} (hr : Region.ready md ops listed = [i, k]) (ho : ops[i]? = some o) (hp : ops[k]? = some p)
  (h1 : ∀ K' : Act → World → Prop, Shut (∀ a w, (i < n → S w) → AnyT P md ops Q S n fuel (listed.setIfInBounds i true) a w → K' a w) → if Region.wanted o (yielded ops a.tmps) = true then Oper.wp P o a w K' Q else K' (a.put o.dst undef) w)
  (h2 : ∀ K' : Act → World → Prop, Shut (∀ a w, (k < n → S w) → AnyT P md ops Q S n fuel (listed.setIfInBounds k true) a w → K' a w) → if Region.wanted p (yielded ops a.tmps) = true then Oper.wp P p a w K' Q else K' (a.put p.dst undef) w) :
  AnyT P md ops Q S n (fuel + 1) listed a w := by
 refine ⟨fun h0 => (by rw [h0] at hr; cases hr), fun j hj => ?_⟩
 rw [hr] at hj
 rcases (show j = i ∨ j = k by simpa using hj) with rfl | rfl
 ·exact wpOp_step ho (fun K' hK => h1 K' (fun a w h1 h2 => hK a w ⟨h1, h2⟩))
 ·exact wpOp_step hp (fun K' hK => h2 K' (fun a w h1 h2 => hK a w ⟨h1, h2⟩))
theorem wp_load30' {o : Oper} {a : Act} {w : World} {K : Act → World → Prop} {Q : Exit → Act → World → Prop} (p : Operand) (hop : o.op = .load 26 p) (g : Nat) (hp : a.eval p = .pointer (some ⟨g, 0, none⟩)) (cs : Array Value) (hb : w.heap[g]? = some (.cells cs 26 (0, 0))) (h1 : cs.size = 258)
  (hK : K (a.put o.dst (.agg cs)) w) : o.wp Tryz.prog a w K Q := by
 unfold Oper.wp
 rw [exec_load30 p hop g hp cs hb h1]
 exact hK
theorem wp_store30' {o : Oper} {a : Act} {w : World} {K : Act → World → Prop} {Q : Exit → Act → World → Prop} (p v : Operand) (hop : o.op = .store 26 p v) (g : Nat) (hp : a.eval p = .pointer (some ⟨g, 0, none⟩)) (cur cs : Array Value) (hb : w.heap[g]? = some (.cells cur 26 (0, 0)))
  (hv : a.eval v = .agg cs) (h0 : cur.size = 258) (h1 : cs.size = 258) (h2 : cs.all (·.oneCell') = true) (hK : K (a.put o.dst undef) (w.setRow g cs)) : o.wp Tryz.prog a w K Q := by
 have hrun := run_storeVar_row (P := Tryz.prog) w g 26 26 cur cs hb (by rw [size30, h1]) (by rw [h0, h1]) h2
 unfold Oper.wp
 simp [execOp, hop, hp, hv, Instr.storeAt, Instr.sureAddr, hrun, Result.andThen]
 exact hK
theorem dval_size {w : World} {nv tv : Value} {D : Aut} (h : DAt w nv tv D) : (dval D nv tv).size = 258 := dvi_size D.cls h.len nv tv
theorem dval_one' {w : World} {nv tv : Value} {D : Aut} (h : DAt w nv tv D) : (dval D nv tv).all (·.oneCell') = true := by
 obtain ⟨no, nc, rfl⟩ := rows_shape h.rows
 obtain ⟨to, tc, rfl⟩ := tags_shape h.tags
 exact dvi_one D.cls rfl rfl
theorem row_below {B : Nat} {w w' : World} {r : Nat} {cs : Array Value} (h : Below B w w') (hr : B ≤ r) : Below B w (w'.setRow r cs) :=
 ⟨h.os, h.tape, h.output, by rw [setRow_size]; exact h.size, fun g hg => by rw [setRow_other _ _ _ _ (by omega)]; exact h.block g hg⟩
def LP (D : Aut) (w : World) (e : Ending) (w' : World) : Prop :=
 (¬ X6.Vd D ∧ e = .returned (.tuple #[.agg dvz, .int .i64 1]) ∧ Below w.heap.size w w') ∨
 (X6.Vd D ∧ ∃ (Bk : List Int) (M : Aut) (st : List Nat) (nv' tv' : Value), e = .returned (.tuple #[.agg (dval M nv' tv'), .int .i64 0]) ∧ X6.Blk (X5.rowOf D 0).length D Bk ∧ X6.IsJ D Bk M st ∧ DNew w.heap.size w' nv' tv' M ∧ Below w.heap.size w w')
set_option maxRecDepth 100000 in
set_option maxHeartbeats 16000000 in
theorem least_any {w : World} {nv tv : Value} {D : Aut} (h : DAt w nv tv D) (hN0 : D.next.length ≤ 1000000) (hT : D.tags.length ≤ 1000000) (hK0 : (X5.rowOf D 0).length ≤ 1000000) (hNK0 : D.next.length * (X5.rowOf D 0).length ≤ 1000000) :
  Calls Tryz.prog 13 #[.agg (dval D nv tv)] w (LP D w) := by
 have hs0 := dval_size h
 obtain ⟨dc, hdc⟩ : ∃ dc, dval D nv tv = dc := ⟨_, rfl⟩
 have HSZ := hid (show dc.size = 258 from by rw [← hdc]; exact hs0)
 rw [hdc]
 have HDC := hid hdc
 obtain ⟨wa, ea⟩ : ∃ wa, w.alloc (.cells dc 26) = wa := ⟨_, rfl⟩
 obtain ⟨wb, eb⟩ : ∃ wb, wa.alloc (.cells dvz 26) = wb := ⟨_, rfl⟩
 have hba : Below w.heap.size w wa := by rw [← ea]; exact (Below.refl _ _).alloc (Nat.le_refl _) _
 have hbb : Below wa.heap.size wa wb := by rw [← eb]; exact (Below.refl _ _).alloc (Nat.le_refl _) _
 have hsa : wa.heap.size = w.heap.size + 1 := by rw [← ea]; simp
 have hsb : wb.heap.size = wa.heap.size + 1 := by rw [← eb]; simp
 have hna : wb.heap[w.heap.size]? = some (.cells dc 26 (0, 0)) := (hbb.block _ (by omega)).trans (by rw [← ea]; exact new_block _ _)
 have hnb : wb.heap[wa.heap.size]? = some (.cells dvz 26 (0, 0)) := by rw [← eb]; exact new_block _ _
 have hbab : Below w.heap.size w wb := hba.trans (hbb.mono hba.size)
 have hd := h.below hbab
 have KV := valid2_any hd hN0 hT
 rw [hdc] at KV
 have KV := hid KV
 have HNB := hid (And.intro hna hnb)
 have HDD := hid hd
 have HBB := hid hbab
 have ht64 : ∀ t ∈ D.tags, t < 18446744073709551616 := fun t ht => by
  obtain ⟨i, hi⟩ := List.mem_iff_getElem?.1 ht
  obtain ⟨_, _, _, _, _, _, h9⟩ := tagsAt_get h.tags hi
  exact h9
 have HT64 := hid ht64
 have HSA := hid (And.intro hsa hsb)
 clear h hna hnb hd hbab hdc hba hbb hs0 ht64 hsa hsb
 go_enter Tryz.func13, Tryz.ntmps13
 go_wp2_with (first | (with_reducible refine wpList_made30 rfl rfl ?_) | (with_reducible refine wpList_load30 rfl (.tmp 1) rfl w.heap.size rfl dc HNB.out.1 HSZ.out ?_))
 refine KV.out.mono ?_
 rintro e w5 ⟨b, rfl, hbv, hb5⟩
 have HN := hid ((hb5.block _ (by have := HSA.out; omega)).trans HNB.out.1)
 have HRZ := hid ((hb5.block _ (by have := HSA.out; omega)).trans HNB.out.2)
 have hs5 := hb5.size
 have HB := hid (HBB.out.trans (hb5.mono HBB.out.size))
 have HDA := hid (HDD.out.below hb5)
 cases b with
 | false =>
  have HV := hid (show ¬ X6.Vd D from fun hv => by have := hbv.2 hv; cases this)
  clear hbv hb5 KV ea eb
  go_wp2_with (first | (with_reducible refine wpList_none30 rfl rfl ?_) | (with_reducible refine wpList_store30 rfl (.tmp 2) (.tmp 7) rfl wa.heap.size rfl dvz dvz HRZ.out rfl dvz_size dvz_size dvz_one ?_))
  refine bodyPost_ret (v := .tuple #[.agg dvz, .int .i64 1]) (results30 rfl _ _ wa.heap.size dvz 1 rfl rfl (setRow_heap _ wa.heap.size dvz dvz 26 (0, 0) HRZ.out) dvz_size) rfl ?_
  exact .inl ⟨HV.out, rfl, row_below HB.out (by have := HSA.out; omega)⟩
 | true =>
  have HV := hid (hbv.1 rfl)
  obtain ⟨N, hNN⟩ : ∃ N, D.next.length = N := ⟨_, rfl⟩
  have HNN := hid hNN
  rw [hNN] at hN0
  obtain ⟨wd, ed⟩ : ∃ wd, w5.drew = wd := ⟨_, rfl⟩
  have hbd : Below w5.heap.size w5 wd := by rw [← ed]; exact (Below.refl _ _).drew
  have hsd : wd.heap.size = w5.heap.size := by rw [← ed]; rfl
  have HN := hid ((hbd.block _ (by have := HSA.out; omega)).trans HN.out)
  have HRZ := hid ((hbd.block _ (by have := HSA.out; omega)).trans HRZ.out)
  have HB := hid (HB.out.trans (hbd.mono HB.out.size))
  have HDA := hid (HDA.out.below hbd)
  have KB := blocks_any HDA.out HV.out.ok (by rw [hNN]; exact hN0) hNK0 hK0 HT64.out
  rw [HDC.out, hNN] at KB
  have KB := hid KB
  have hN := hN0
  have hK1 := hK0
  clear hbv hb5 hbd KV ea eb hNN hN0 hNK0 hK0
  go_wp2_with fail
  refine region_T 0 (fun _ => True) (by kernel_rfl) trivial (fun inv hHeld => ?_)
  rw [ed]
  clear hHeld inv ed
  refine anyT_two (i := 0) (k := 1) (o := { dst := some 8, op := Go.Op.load 26 (Go.Operand.tmp 1), type := 26, pos := "mini.go:20", after := #[], guard := none }) (p := { dst := some 9, op := Go.Op.load 26 (Go.Operand.tmp 1), type := 26, pos := "mini.go:20", after := #[], guard := none }) (by kernel_rfl) rfl rfl (fun K' hK => ?_) (fun K' hK => ?_)
  ·simp only [Region.wanted]
   rw [if_pos trivial]
   refine wp_load30' (.tmp 1) rfl w.heap.size rfl dc HN.out HSZ.out ?_
   refine hK.out _ _ (fun h => absurd h (by decide)) ?_
   clear hK K'
   try simp only [Act.put, List.setIfInBounds_toArray, List.set_cons_zero, List.set_cons_succ]
   refine anyT_one (i := 1) (o := { dst := some 9, op := Go.Op.load 26 (Go.Operand.tmp 1), type := 26, pos := "mini.go:20", after := #[], guard := none }) (by kernel_rfl) rfl (fun K' hK => ?_)
   simp only [Region.wanted]
   rw [if_pos trivial]
   refine wp_load30' (.tmp 1) rfl w.heap.size rfl dc HN.out HSZ.out ?_
   refine hK.out _ _ (fun h => absurd h (by decide)) ?_
   clear hK K'
   try simp only [Act.put, List.setIfInBounds_toArray, List.set_cons_zero, List.set_cons_succ]
   refine anyT_one (i := 2) (o := { dst := some 10, op := Go.Op.call { callee := Go.Callee.value (Go.Operand.func 44), args := #[Go.Operand.tmp 9], argTypes := #[26] }, type := 87, pos := "mini.go:20", after := #[{ on := 1, ground := Go.Ground.data }], guard := none }) (by kernel_rfl) rfl (fun K' hK => ?_)
   go_simp
   refine KB.out.mono ?_
   rintro e w6 ⟨bo, bc, Bk, rfl, hrow, hblk, hbr, hb6⟩
   have HN := hid ((hb6.block _ (Array.getElem?_eq_some_iff.1 HN.out).1).trans HN.out)
   have HRZ := hid ((hb6.block _ (Array.getElem?_eq_some_iff.1 HRZ.out).1).trans HRZ.out)
   have HB := hid (HB.out.trans (hb6.mono HB.out.size))
   have KJ := joined_any (HDA.out.below hb6) HV.out.ok HNN.out hN hK1 hrow hblk hbr
   rw [HDC.out] at KJ
   have KJ := hid KJ
   have HBL := hid hblk
   have HSW := hid (show w.heap.size < w6.heap.size ∧ wa.heap.size < w6.heap.size from by have := (Array.getElem?_eq_some_iff.1 HN.out).1; have := (Array.getElem?_eq_some_iff.1 HRZ.out).1; omega)
   clear hb6 hrow hblk hbr KB HDA
   refine hK.out _ _ (fun h => absurd h (by decide)) ?_
   clear hK K'
   try simp only [Act.put, List.setIfInBounds_toArray, List.set_cons_zero, List.set_cons_succ]
   refine anyT_one (i := 3) (o := { dst := some 11, op := Go.Op.call { callee := Go.Callee.value (Go.Operand.func 43), args := #[Go.Operand.tmp 8, Go.Operand.tmp 10], argTypes := #[26, 87] }, type := 26, pos := "mini.go:20", after := #[{ on := 0, ground := Go.Ground.data }, { on := 2, ground := Go.Ground.data }, { on := 2, ground := Go.Ground.chain }], guard := none }) (by kernel_rfl) rfl (fun K' hK => ?_)
   go_simp
   refine KJ.out.mono ?_
   rintro e w7 ⟨M, st, nv', tv', rfl, hj, hda7, hb7⟩
   have HRZ := hid ((hb7.block _ (Array.getElem?_eq_some_iff.1 HRZ.out).1).trans HRZ.out)
   have HB := hid (HB.out.trans (hb7.mono HB.out.size))
   have HM := hid (And.intro hj (show DNew w.heap.size (w7.setRow wa.heap.size (dval M nv' tv')) nv' tv' M from fun w2 hk => hda7 w2 fun g hg => (hk g (by have := HSW.out; have := HSA.out; omega)).trans (setRow_other _ _ _ _ (by have := HSW.out; have := HSA.out; omega))))
   obtain ⟨dm, hdm⟩ : ∃ dm, dval M nv' tv' = dm := ⟨_, rfl⟩
   rw [hdm]
   have HDM := hid (And.intro hdm (And.intro (show dm.size = 258 from by rw [← hdm]; exact dval_size hda7.at_) (show dm.all (·.oneCell') = true from by rw [← hdm]; exact dval_one' hda7.at_)))
   clear hb7 hj hda7 hdm KJ
   refine hK.out _ _ (fun h => absurd h (by decide)) ?_
   clear hK K'
   try simp only [Act.put, List.setIfInBounds_toArray, List.set_cons_zero, List.set_cons_succ]
   refine anyT_one (i := 4) (o := { dst := none, op := Go.Op.store 26 (Go.Operand.tmp 2) (Go.Operand.tmp 11), type := 0, pos := "mini.go:20", after := #[{ on := 3, ground := Go.Ground.data }, { on := 3, ground := Go.Ground.chain }, { on := 0, ground := Go.Ground.phase }, { on := 1, ground := Go.Ground.phase }, { on := 2, ground := Go.Ground.phase }, { on := 3, ground := Go.Ground.phase }], guard := none }) (by kernel_rfl) rfl (fun K' hK => ?_)
   simp only [Region.wanted]
   rw [if_pos trivial]
   refine wp_store30' (.tmp 2) (.tmp 11) rfl wa.heap.size rfl dvz dm HRZ.out rfl dvz_size HDM.out.2.1 HDM.out.2.2 ?_
   refine hK.out _ _ (fun h => absurd h (by decide)) ?_
   clear hK K'
   try simp only [Act.put, List.setIfInBounds_toArray, List.set_cons_zero, List.set_cons_succ]
   refine anyT_one (i := 5) (o := { dst := some 3, op := Go.Op.assign (Go.Operand.const (Go.Value.int Go.IntKind.i64 0)), type := 29, pos := "mini.go:20", after := #[{ on := 4, ground := Go.Ground.chain }, { on := 0, ground := Go.Ground.phase }, { on := 1, ground := Go.Ground.phase }, { on := 2, ground := Go.Ground.phase }, { on := 3, ground := Go.Ground.phase }, { on := 4, ground := Go.Ground.phase }], guard := none }) (by kernel_rfl) rfl (fun K' hK => ?_)
   go_simp
   refine hK.out _ _ (fun h => absurd h (by decide)) ?_
   clear hK K'
   try simp only [Act.put, List.setIfInBounds_toArray, List.set_cons_zero, List.set_cons_succ]
   refine anyT_done (by kernel_rfl) ?_ _
   go_wp2_with fail
   refine bodyPost_ret (v := .tuple #[.agg dm, .int .i64 0]) (results30 rfl _ _ wa.heap.size dm 0 rfl rfl (setRow_heap _ wa.heap.size dvz dm 26 (0, 0) HRZ.out) HDM.out.2.1) rfl ?_
   refine .inr ⟨HV.out, Bk, M, st, nv', tv', by rw [HDM.out.1], HBL.out, HM.out.1, by have h9 := HM.out.2; rw [HDM.out.1] at h9; exact h9, row_below HB.out (by have := HSA.out; omega)⟩
  ·simp only [Region.wanted]
   rw [if_pos trivial]
   refine wp_load30' (.tmp 1) rfl w.heap.size rfl dc HN.out HSZ.out ?_
   refine hK.out _ _ (fun h => absurd h (by decide)) ?_
   clear hK K'
   try simp only [Act.put, List.setIfInBounds_toArray, List.set_cons_zero, List.set_cons_succ]
   refine anyT_two (i := 0) (k := 2) (o := { dst := some 8, op := Go.Op.load 26 (Go.Operand.tmp 1), type := 26, pos := "mini.go:20", after := #[], guard := none }) (p := { dst := some 10, op := Go.Op.call { callee := Go.Callee.value (Go.Operand.func 44), args := #[Go.Operand.tmp 9], argTypes := #[26] }, type := 87, pos := "mini.go:20", after := #[{ on := 1, ground := Go.Ground.data }], guard := none }) (by kernel_rfl) rfl rfl (fun K' hK => ?_) (fun K' hK => ?_)
   ·simp only [Region.wanted]
    rw [if_pos trivial]
    refine wp_load30' (.tmp 1) rfl w.heap.size rfl dc HN.out HSZ.out ?_
    refine hK.out _ _ (fun h => absurd h (by decide)) ?_
    clear hK K'
    try simp only [Act.put, List.setIfInBounds_toArray, List.set_cons_zero, List.set_cons_succ]
    refine anyT_one (i := 2) (o := { dst := some 10, op := Go.Op.call { callee := Go.Callee.value (Go.Operand.func 44), args := #[Go.Operand.tmp 9], argTypes := #[26] }, type := 87, pos := "mini.go:20", after := #[{ on := 1, ground := Go.Ground.data }], guard := none }) (by kernel_rfl) rfl (fun K' hK => ?_)
    go_simp
    refine KB.out.mono ?_
    rintro e w6 ⟨bo, bc, Bk, rfl, hrow, hblk, hbr, hb6⟩
    have HN := hid ((hb6.block _ (Array.getElem?_eq_some_iff.1 HN.out).1).trans HN.out)
    have HRZ := hid ((hb6.block _ (Array.getElem?_eq_some_iff.1 HRZ.out).1).trans HRZ.out)
    have HB := hid (HB.out.trans (hb6.mono HB.out.size))
    have KJ := joined_any (HDA.out.below hb6) HV.out.ok HNN.out hN hK1 hrow hblk hbr
    rw [HDC.out] at KJ
    have KJ := hid KJ
    have HBL := hid hblk
    have HSW := hid (show w.heap.size < w6.heap.size ∧ wa.heap.size < w6.heap.size from by have := (Array.getElem?_eq_some_iff.1 HN.out).1; have := (Array.getElem?_eq_some_iff.1 HRZ.out).1; omega)
    clear hb6 hrow hblk hbr KB HDA
    refine hK.out _ _ (fun h => absurd h (by decide)) ?_
    clear hK K'
    try simp only [Act.put, List.setIfInBounds_toArray, List.set_cons_zero, List.set_cons_succ]
    refine anyT_one (i := 3) (o := { dst := some 11, op := Go.Op.call { callee := Go.Callee.value (Go.Operand.func 43), args := #[Go.Operand.tmp 8, Go.Operand.tmp 10], argTypes := #[26, 87] }, type := 26, pos := "mini.go:20", after := #[{ on := 0, ground := Go.Ground.data }, { on := 2, ground := Go.Ground.data }, { on := 2, ground := Go.Ground.chain }], guard := none }) (by kernel_rfl) rfl (fun K' hK => ?_)
    go_simp
    refine KJ.out.mono ?_
    rintro e w7 ⟨M, st, nv', tv', rfl, hj, hda7, hb7⟩
    have HRZ := hid ((hb7.block _ (Array.getElem?_eq_some_iff.1 HRZ.out).1).trans HRZ.out)
    have HB := hid (HB.out.trans (hb7.mono HB.out.size))
    have HM := hid (And.intro hj (show DNew w.heap.size (w7.setRow wa.heap.size (dval M nv' tv')) nv' tv' M from fun w2 hk => hda7 w2 fun g hg => (hk g (by have := HSW.out; have := HSA.out; omega)).trans (setRow_other _ _ _ _ (by have := HSW.out; have := HSA.out; omega))))
    obtain ⟨dm, hdm⟩ : ∃ dm, dval M nv' tv' = dm := ⟨_, rfl⟩
    rw [hdm]
    have HDM := hid (And.intro hdm (And.intro (show dm.size = 258 from by rw [← hdm]; exact dval_size hda7.at_) (show dm.all (·.oneCell') = true from by rw [← hdm]; exact dval_one' hda7.at_)))
    clear hb7 hj hda7 hdm KJ
    refine hK.out _ _ (fun h => absurd h (by decide)) ?_
    clear hK K'
    try simp only [Act.put, List.setIfInBounds_toArray, List.set_cons_zero, List.set_cons_succ]
    refine anyT_one (i := 4) (o := { dst := none, op := Go.Op.store 26 (Go.Operand.tmp 2) (Go.Operand.tmp 11), type := 0, pos := "mini.go:20", after := #[{ on := 3, ground := Go.Ground.data }, { on := 3, ground := Go.Ground.chain }, { on := 0, ground := Go.Ground.phase }, { on := 1, ground := Go.Ground.phase }, { on := 2, ground := Go.Ground.phase }, { on := 3, ground := Go.Ground.phase }], guard := none }) (by kernel_rfl) rfl (fun K' hK => ?_)
    simp only [Region.wanted]
    rw [if_pos trivial]
    refine wp_store30' (.tmp 2) (.tmp 11) rfl wa.heap.size rfl dvz dm HRZ.out rfl dvz_size HDM.out.2.1 HDM.out.2.2 ?_
    refine hK.out _ _ (fun h => absurd h (by decide)) ?_
    clear hK K'
    try simp only [Act.put, List.setIfInBounds_toArray, List.set_cons_zero, List.set_cons_succ]
    refine anyT_one (i := 5) (o := { dst := some 3, op := Go.Op.assign (Go.Operand.const (Go.Value.int Go.IntKind.i64 0)), type := 29, pos := "mini.go:20", after := #[{ on := 4, ground := Go.Ground.chain }, { on := 0, ground := Go.Ground.phase }, { on := 1, ground := Go.Ground.phase }, { on := 2, ground := Go.Ground.phase }, { on := 3, ground := Go.Ground.phase }, { on := 4, ground := Go.Ground.phase }], guard := none }) (by kernel_rfl) rfl (fun K' hK => ?_)
    go_simp
    refine hK.out _ _ (fun h => absurd h (by decide)) ?_
    clear hK K'
    try simp only [Act.put, List.setIfInBounds_toArray, List.set_cons_zero, List.set_cons_succ]
    refine anyT_done (by kernel_rfl) ?_ _
    go_wp2_with fail
    refine bodyPost_ret (v := .tuple #[.agg dm, .int .i64 0]) (results30 rfl _ _ wa.heap.size dm 0 rfl rfl (setRow_heap _ wa.heap.size dvz dm 26 (0, 0) HRZ.out) HDM.out.2.1) rfl ?_
    refine .inr ⟨HV.out, Bk, M, st, nv', tv', by rw [HDM.out.1], HBL.out, HM.out.1, by have h9 := HM.out.2; rw [HDM.out.1] at h9; exact h9, row_below HB.out (by have := HSA.out; omega)⟩
   ·go_simp
    refine KB.out.mono ?_
    rintro e w6 ⟨bo, bc, Bk, rfl, hrow, hblk, hbr, hb6⟩
    have HN := hid ((hb6.block _ (Array.getElem?_eq_some_iff.1 HN.out).1).trans HN.out)
    have HRZ := hid ((hb6.block _ (Array.getElem?_eq_some_iff.1 HRZ.out).1).trans HRZ.out)
    have HB := hid (HB.out.trans (hb6.mono HB.out.size))
    have KJ := joined_any (HDA.out.below hb6) HV.out.ok HNN.out hN hK1 hrow hblk hbr
    rw [HDC.out] at KJ
    have KJ := hid KJ
    have HBL := hid hblk
    have HSW := hid (show w.heap.size < w6.heap.size ∧ wa.heap.size < w6.heap.size from by have := (Array.getElem?_eq_some_iff.1 HN.out).1; have := (Array.getElem?_eq_some_iff.1 HRZ.out).1; omega)
    clear hb6 hrow hblk hbr KB HDA
    refine hK.out _ _ (fun h => absurd h (by decide)) ?_
    clear hK K'
    try simp only [Act.put, List.setIfInBounds_toArray, List.set_cons_zero, List.set_cons_succ]
    refine anyT_one (i := 0) (o := { dst := some 8, op := Go.Op.load 26 (Go.Operand.tmp 1), type := 26, pos := "mini.go:20", after := #[], guard := none }) (by kernel_rfl) rfl (fun K' hK => ?_)
    simp only [Region.wanted]
    rw [if_pos trivial]
    refine wp_load30' (.tmp 1) rfl w.heap.size rfl dc HN.out HSZ.out ?_
    refine hK.out _ _ (fun h => absurd h (by decide)) ?_
    clear hK K'
    try simp only [Act.put, List.setIfInBounds_toArray, List.set_cons_zero, List.set_cons_succ]
    refine anyT_one (i := 3) (o := { dst := some 11, op := Go.Op.call { callee := Go.Callee.value (Go.Operand.func 43), args := #[Go.Operand.tmp 8, Go.Operand.tmp 10], argTypes := #[26, 87] }, type := 26, pos := "mini.go:20", after := #[{ on := 0, ground := Go.Ground.data }, { on := 2, ground := Go.Ground.data }, { on := 2, ground := Go.Ground.chain }], guard := none }) (by kernel_rfl) rfl (fun K' hK => ?_)
    go_simp
    refine KJ.out.mono ?_
    rintro e w7 ⟨M, st, nv', tv', rfl, hj, hda7, hb7⟩
    have HRZ := hid ((hb7.block _ (Array.getElem?_eq_some_iff.1 HRZ.out).1).trans HRZ.out)
    have HB := hid (HB.out.trans (hb7.mono HB.out.size))
    have HM := hid (And.intro hj (show DNew w.heap.size (w7.setRow wa.heap.size (dval M nv' tv')) nv' tv' M from fun w2 hk => hda7 w2 fun g hg => (hk g (by have := HSW.out; have := HSA.out; omega)).trans (setRow_other _ _ _ _ (by have := HSW.out; have := HSA.out; omega))))
    obtain ⟨dm, hdm⟩ : ∃ dm, dval M nv' tv' = dm := ⟨_, rfl⟩
    rw [hdm]
    have HDM := hid (And.intro hdm (And.intro (show dm.size = 258 from by rw [← hdm]; exact dval_size hda7.at_) (show dm.all (·.oneCell') = true from by rw [← hdm]; exact dval_one' hda7.at_)))
    clear hb7 hj hda7 hdm KJ
    refine hK.out _ _ (fun h => absurd h (by decide)) ?_
    clear hK K'
    try simp only [Act.put, List.setIfInBounds_toArray, List.set_cons_zero, List.set_cons_succ]
    refine anyT_one (i := 4) (o := { dst := none, op := Go.Op.store 26 (Go.Operand.tmp 2) (Go.Operand.tmp 11), type := 0, pos := "mini.go:20", after := #[{ on := 3, ground := Go.Ground.data }, { on := 3, ground := Go.Ground.chain }, { on := 0, ground := Go.Ground.phase }, { on := 1, ground := Go.Ground.phase }, { on := 2, ground := Go.Ground.phase }, { on := 3, ground := Go.Ground.phase }], guard := none }) (by kernel_rfl) rfl (fun K' hK => ?_)
    simp only [Region.wanted]
    rw [if_pos trivial]
    refine wp_store30' (.tmp 2) (.tmp 11) rfl wa.heap.size rfl dvz dm HRZ.out rfl dvz_size HDM.out.2.1 HDM.out.2.2 ?_
    refine hK.out _ _ (fun h => absurd h (by decide)) ?_
    clear hK K'
    try simp only [Act.put, List.setIfInBounds_toArray, List.set_cons_zero, List.set_cons_succ]
    refine anyT_one (i := 5) (o := { dst := some 3, op := Go.Op.assign (Go.Operand.const (Go.Value.int Go.IntKind.i64 0)), type := 29, pos := "mini.go:20", after := #[{ on := 4, ground := Go.Ground.chain }, { on := 0, ground := Go.Ground.phase }, { on := 1, ground := Go.Ground.phase }, { on := 2, ground := Go.Ground.phase }, { on := 3, ground := Go.Ground.phase }, { on := 4, ground := Go.Ground.phase }], guard := none }) (by kernel_rfl) rfl (fun K' hK => ?_)
    go_simp
    refine hK.out _ _ (fun h => absurd h (by decide)) ?_
    clear hK K'
    try simp only [Act.put, List.setIfInBounds_toArray, List.set_cons_zero, List.set_cons_succ]
    refine anyT_done (by kernel_rfl) ?_ _
    go_wp2_with fail
    refine bodyPost_ret (v := .tuple #[.agg dm, .int .i64 0]) (results30 rfl _ _ wa.heap.size dm 0 rfl rfl (setRow_heap _ wa.heap.size dvz dm 26 (0, 0) HRZ.out) HDM.out.2.1) rfl ?_
    refine .inr ⟨HV.out, Bk, M, st, nv', tv', by rw [HDM.out.1], HBL.out, HM.out.1, by have h9 := HM.out.2; rw [HDM.out.1] at h9; exact h9, row_below HB.out (by have := HSA.out; omega)⟩
end Go.Proofs.YtochckefnjobhaaGreatDoor
