/- mini.Least. -/
import Derived.Test.YtochckefnjobhaaGreatDoorKk
import Derived.Test.YtochckefnjobhaaGreatDoorUu
import Derived.Deep.Slices
import Derived.OpenShut
import Derived.ChangeSame
import Derived.Lib.SmallJoins
namespace Go.Proofs.YtochckefnjobhaaGreatDoor
open Go Go.RowKit Go.Lib
open X5 (Aut)
set_option linter.unusedVariables false
set_option linter.unusedSimpArgs false
theorem anyT_two {P : Program} {ops : Array Oper} {Q : Exit → Act → World → Prop} {md : Region.Mode} {S : World → Prop} {n i k : Nat} {o p : Oper} {fuel : Nat} {listed : Array Bool} {a : Act} {w : World} (hr : Region.ready md ops listed = [i, k]) (ho : ops[i]? = some o) (hp : ops[k]? = some p)
  (h1 : ∀ K' : Act → World → Prop, Shut (∀ a w, (i < n → S w) → AnyT P md ops Q S n fuel (listed.setIfInBounds i true) a w → K' a w) → if Region.wanted o (yielded ops a.tmps) = true then Oper.wp P o a w K' Q else K' (a.put o.dst undef) w)
  (h2 : ∀ K' : Act → World → Prop, Shut (∀ a w, (k < n → S w) → AnyT P md ops Q S n fuel (listed.setIfInBounds k true) a w → K' a w) → if Region.wanted p (yielded ops a.tmps) = true then Oper.wp P p a w K' Q else K' (a.put p.dst undef) w) :
  AnyT P md ops Q S n (fuel + 1) listed a w := by
 refine ⟨fun h0 => (by rw [h0] at hr; cases hr), fun j hj => ?_⟩
 rw [hr] at hj
 rcases (show j = i ∨ j = k by simpa using hj) with rfl | rfl
 ·exact wpOp_step ho (fun K' hK => h1 K' (fun a w h1 h2 => hK a w ⟨h1, h2⟩))
 ·exact wpOp_step hp (fun K' hK => h2 K' (fun a w h1 h2 => hK a w ⟨h1, h2⟩))
theorem wp_load30' {o : Oper} {a : Act} {w : World} {K : Act → World → Prop} {Q : Exit → Act → World → Prop} (p : Operand) (hop : o.op = .load 26 p) (g : Nat) (hp : a.eval p = .pointer (some ⟨g, 0, none⟩)) (cs : Array Value) (hb : w.heap[g]? = some (.cells cs 26 (0, 0))) (h1 : cs.size = 258)
  (hK : K (a.put o.dst (.agg cs)) w) : o.wp Tryz.prog a w K Q := by
 unfold Oper.wp
 rw [exec_load30 p hop g hp cs hb h1]
 exact hK
theorem wp_store30' {o : Oper} {a : Act} {w : World} {K : Act → World → Prop} {Q : Exit → Act → World → Prop} (p v : Operand) (hop : o.op = .store 26 p v) (g : Nat) (hp : a.eval p = .pointer (some ⟨g, 0, none⟩)) (cur cs : Array Value) (hb : w.heap[g]? = some (.cells cur 26 (0, 0)))
  (hv : a.eval v = .agg cs) (h0 : cur.size = 258) (h1 : cs.size = 258) (h2 : cs.all (·.oneCell') = true) (hK : K (a.put o.dst undef) (w.setRow g cs)) : o.wp Tryz.prog a w K Q := by
 have hrun := run_storeVar_row (P := Tryz.prog) w g 26 26 cur cs hb (by rw [size30, h1]) (by rw [h0, h1]) h2
 unfold Oper.wp
 simp [execOp, hop, hp, hv, Instr.storeAt, Instr.sureAddr, hrun, Result.andThen]
 exact hK
theorem dval_size {w : World} {nv tv : Value} {D : Aut} (h : DAt w nv tv D) : (dval D nv tv).size = 258 := dvi_size D.cls h.len nv tv
theorem dval_one' {w : World} {nv tv : Value} {D : Aut} (h : DAt w nv tv D) : (dval D nv tv).all (·.oneCell') = true := by
 obtain ⟨no, nc, rfl⟩ := rows_shape h.rows
 obtain ⟨to, tc, rfl⟩ := tags_shape h.tags
 exact dvi_one D.cls rfl rfl
theorem row_below {B : Nat} {w w' : World} {r : Nat} {cs : Array Value} (h : Below B w w') (hr : B ≤ r) : Below B w (w'.setRow r cs) :=
 ⟨h.os, h.tape, h.output, by rw [setRow_size]; exact h.size, fun g hg => by rw [setRow_other _ _ _ _ (by omega)]; exact h.block g hg⟩
def LP (D : Aut) (w : World) (e : Ending) (w' : World) : Prop :=
 (¬ X6.Vd D ∧ e = .returned (.tuple #[.agg dvz, .int .i64 1]) ∧ Below w.heap.size w w') ∨
 (X6.Vd D ∧ ∃ (Bk : List Int) (M : Aut) (st : List Nat) (nv' tv' : Value), e = .returned (.tuple #[.agg (dval M nv' tv'), .int .i64 0]) ∧ X6.Blk (X5.rowOf D 0).length D Bk ∧ X6.IsJ D Bk M st ∧ DNew w.heap.size w' nv' tv' M ∧ Below w.heap.size w w')
set_option maxRecDepth 100000 in
set_option maxHeartbeats 16000000 in
theorem least_any {w : World} {nv tv : Value} {D : Aut} (h : DAt w nv tv D) (hN0 : D.next.length ≤ 1000000) (hT : D.tags.length ≤ 1000000) (hK0 : (X5.rowOf D 0).length ≤ 1000000) (hNK0 : D.next.length * (X5.rowOf D 0).length ≤ 1000000) :
  Calls Tryz.prog 13 #[.agg (dval D nv tv)] w (LP D w) := by
 have hs0 := dval_size h
 obtain ⟨dc, hdc⟩ : ∃ dc, dval D nv tv = dc := ⟨_, rfl⟩
 have HSZ := hid (show dc.size = 258 from by rw [← hdc]; exact hs0)
 rw [hdc]
 have HDC := hid hdc
 obtain ⟨wa, ea⟩ : ∃ wa, w.alloc (.cells dc 26) = wa := ⟨_, rfl⟩
 obtain ⟨wb, eb⟩ : ∃ wb, wa.alloc (.cells dvz 26) = wb := ⟨_, rfl⟩
 have hba : Below w.heap.size w wa := by rw [← ea]; exact (Below.refl _ _).alloc (Nat.le_refl _) _
 have hbb : Below wa.heap.size wa wb := by rw [← eb]; exact (Below.refl _ _).alloc (Nat.le_refl _) _
 have hsa : wa.heap.size = w.heap.size + 1 := by rw [← ea]; simp
 have hsb : wb.heap.size = wa.heap.size + 1 := by rw [← eb]; simp
 have hna : wb.heap[w.heap.size]? = some (.cells dc 26 (0, 0)) := (hbb.block _ (by omega)).trans (by rw [← ea]; exact new_block _ _)
 have hnb : wb.heap[wa.heap.size]? = some (.cells dvz 26 (0, 0)) := by rw [← eb]; exact new_block _ _
 have hbab : Below w.heap.size w wb := hba.trans (hbb.mono hba.size)
 have hd := h.below hbab
 have KV := valid2_any hd hN0 hT
 rw [hdc] at KV
 have KV := hid KV
 have HNB := hid (And.intro hna hnb)
 have HDD := hid hd
 have HBB := hid hbab
 have ht64 : ∀ t ∈ D.tags, t < 18446744073709551616 := fun t ht => by
  obtain ⟨i, hi⟩ := List.mem_iff_getElem?.1 ht
  obtain ⟨_, _, _, _, _, _, h9⟩ := tagsAt_get h.tags hi
  exact h9
 have HT64 := hid ht64
 have HSA := hid (And.intro hsa hsb)
 clear h hna hnb hd hbab hdc hba hbb hs0 ht64 hsa hsb
 go_enter Tryz.func13, Tryz.ntmps13
 go_wp2_with (first | (with_reducible refine wpList_made30 rfl rfl ?_) | (with_reducible refine wpList_load30 rfl (.tmp 1) rfl w.heap.size rfl dc HNB.out.1 HSZ.out ?_))
 refine KV.out.mono ?_
 rintro e w5 ⟨b, rfl, hbv, hb5⟩
 have HN := hid ((hb5.block _ (by have := HSA.out; omega)).trans HNB.out.1)
 have HRZ := hid ((hb5.block _ (by have := HSA.out; omega)).trans HNB.out.2)
 have hs5 := hb5.size
 have HB := hid (HBB.out.trans (hb5.mono HBB.out.size))
 have HDA := hid (HDD.out.below hb5)
 cases b with
 | false =>
  have HV := hid (show ¬ X6.Vd D from fun hv => by have := hbv.2 hv; cases this)
  clear hbv hb5 KV ea eb
  go_wp2_with (first | (with_reducible refine wpList_none30 rfl rfl ?_) | (with_reducible refine wpList_store30 rfl (.tmp 2) (.tmp 7) rfl wa.heap.size rfl dvz dvz HRZ.out rfl dvz_size dvz_size dvz_one ?_))
  refine bodyPost_ret (v := .tuple #[.agg dvz, .int .i64 1]) (results30 rfl _ _ wa.heap.size dvz 1 rfl rfl (setRow_heap _ wa.heap.size dvz dvz 26 (0, 0) HRZ.out) dvz_size) rfl ?_
  exact .inl ⟨HV.out, rfl, row_below HB.out (by have := HSA.out; omega)⟩
 | true =>
  have HV := hid (hbv.1 rfl)
  obtain ⟨N, hNN⟩ : ∃ N, D.next.length = N := ⟨_, rfl⟩
  have HNN := hid hNN
  rw [hNN] at hN0
  obtain ⟨wd, ed⟩ : ∃ wd, w5.drew = wd := ⟨_, rfl⟩
  have hbd : Below w5.heap.size w5 wd := by rw [← ed]; exact (Below.refl _ _).drew
  have hsd : wd.heap.size = w5.heap.size := by rw [← ed]; rfl
  have HN := hid ((hbd.block _ (by have := HSA.out; omega)).trans HN.out)
  have HRZ := hid ((hbd.block _ (by have := HSA.out; omega)).trans HRZ.out)
  have HB := hid (HB.out.trans (hbd.mono HB.out.size))
  have HDA := hid (HDA.out.below hbd)
  have KB := blocks_any HDA.out HV.out.ok (by rw [hNN]; exact hN0) hNK0 hK0 HT64.out
  rw [HDC.out, hNN] at KB
  have KB := hid KB
  have hN := hN0
  have hK1 := hK0
  clear hbv hb5 hbd KV ea eb hNN hN0 hNK0 hK0
  go_wp2_with fail
  refine region_T 0 (fun _ => True) (by kernel_rfl) trivial (fun inv hHeld => ?_)
  rw [ed]
  clear hHeld inv ed
  refine anyT_two (i := 0) (k := 1) (o := { dst := some 8, op := Go.Op.load 26 (Go.Operand.tmp 1), type := 26, pos := "mini.go:20", after := #[], guard := none }) (p := { dst := some 9, op := Go.Op.load 26 (Go.Operand.tmp 1), type := 26, pos := "mini.go:20", after := #[], guard := none }) (by kernel_rfl) rfl rfl (fun K' hK => ?_) (fun K' hK => ?_)
  ·simp only [Region.wanted]
   rw [if_pos trivial]
   refine wp_load30' (.tmp 1) rfl w.heap.size rfl dc HN.out HSZ.out ?_
   refine hK.out _ _ (fun h => absurd h (by decide)) ?_
   clear hK K'
   try simp only [Act.put, List.setIfInBounds_toArray, List.set_cons_zero, List.set_cons_succ]
   refine anyT_one (i := 1) (o := { dst := some 9, op := Go.Op.load 26 (Go.Operand.tmp 1), type := 26, pos := "mini.go:20", after := #[], guard := none }) (by kernel_rfl) rfl (fun K' hK => ?_)
   simp only [Region.wanted]
   rw [if_pos trivial]
   refine wp_load30' (.tmp 1) rfl w.heap.size rfl dc HN.out HSZ.out ?_
   refine hK.out _ _ (fun h => absurd h (by decide)) ?_
   clear hK K'
   try simp only [Act.put, List.setIfInBounds_toArray, List.set_cons_zero, List.set_cons_succ]
   refine anyT_one (i := 2) (o := { dst := some 10, op := Go.Op.call { callee := Go.Callee.value (Go.Operand.func 44), args := #[Go.Operand.tmp 9], argTypes := #[26] }, type := 87, pos := "mini.go:20", after := #[{ on := 1, ground := Go.Ground.data }], guard := none }) (by kernel_rfl) rfl (fun K' hK => ?_)
   go_simp
   refine KB.out.mono ?_
   rintro e w6 ⟨bo, bc, Bk, rfl, hrow, hblk, hbr, hb6⟩
   have HN := hid ((hb6.block _ (Array.getElem?_eq_some_iff.1 HN.out).1).trans HN.out)
   have HRZ := hid ((hb6.block _ (Array.getElem?_eq_some_iff.1 HRZ.out).1).trans HRZ.out)
   have HB := hid (HB.out.trans (hb6.mono HB.out.size))
   have KJ := joined_any (HDA.out.below hb6) HV.out.ok HNN.out hN hK1 hrow hblk hbr
   rw [HDC.out] at KJ
   have KJ := hid KJ
   have HBL := hid hblk
   have HSW := hid (show w.heap.size < w6.heap.size ∧ wa.heap.size < w6.heap.size from by have := (Array.getElem?_eq_some_iff.1 HN.out).1; have := (Array.getElem?_eq_some_iff.1 HRZ.out).1; omega)
   clear hb6 hrow hblk hbr KB HDA
   refine hK.out _ _ (fun h => absurd h (by decide)) ?_
   clear hK K'
   try simp only [Act.put, List.setIfInBounds_toArray, List.set_cons_zero, List.set_cons_succ]
   refine anyT_one (i := 3) (o := { dst := some 11, op := Go.Op.call { callee := Go.Callee.value (Go.Operand.func 43), args := #[Go.Operand.tmp 8, Go.Operand.tmp 10], argTypes := #[26, 87] }, type := 26, pos := "mini.go:20", after := #[{ on := 0, ground := Go.Ground.data }, { on := 2, ground := Go.Ground.data }, { on := 2, ground := Go.Ground.chain }], guard := none }) (by kernel_rfl) rfl (fun K' hK => ?_)
   go_simp
   refine KJ.out.mono ?_
   rintro e w7 ⟨M, st, nv', tv', rfl, hj, hda7, hb7⟩
   have HRZ := hid ((hb7.block _ (Array.getElem?_eq_some_iff.1 HRZ.out).1).trans HRZ.out)
   have HB := hid (HB.out.trans (hb7.mono HB.out.size))
   have HM := hid (And.intro hj (show DNew w.heap.size (w7.setRow wa.heap.size (dval M nv' tv')) nv' tv' M from fun w2 hk => hda7 w2 fun g hg => (hk g (by have := HSW.out; have := HSA.out; omega)).trans (setRow_other _ _ _ _ (by have := HSW.out; have := HSA.out; omega))))
   obtain ⟨dm, hdm⟩ : ∃ dm, dval M nv' tv' = dm := ⟨_, rfl⟩
   rw [hdm]
   have HDM := hid (And.intro hdm (And.intro (show dm.size = 258 from by rw [← hdm]; exact dval_size hda7.at_) (show dm.all (·.oneCell') = true from by rw [← hdm]; exact dval_one' hda7.at_)))
   clear hb7 hj hda7 hdm KJ
   refine hK.out _ _ (fun h => absurd h (by decide)) ?_
   clear hK K'
   try simp only [Act.put, List.setIfInBounds_toArray, List.set_cons_zero, List.set_cons_succ]
   refine anyT_one (i := 4) (o := { dst := none, op := Go.Op.store 26 (Go.Operand.tmp 2) (Go.Operand.tmp 11), type := 0, pos := "mini.go:20", after := #[{ on := 3, ground := Go.Ground.data }, { on := 3, ground := Go.Ground.chain }, { on := 0, ground := Go.Ground.phase }, { on := 1, ground := Go.Ground.phase }, { on := 2, ground := Go.Ground.phase }, { on := 3, ground := Go.Ground.phase }], guard := none }) (by kernel_rfl) rfl (fun K' hK => ?_)
   simp only [Region.wanted]
   rw [if_pos trivial]
   refine wp_store30' (.tmp 2) (.tmp 11) rfl wa.heap.size rfl dvz dm HRZ.out rfl dvz_size HDM.out.2.1 HDM.out.2.2 ?_
   refine hK.out _ _ (fun h => absurd h (by decide)) ?_
   clear hK K'
   try simp only [Act.put, List.setIfInBounds_toArray, List.set_cons_zero, List.set_cons_succ]
   refine anyT_one (i := 5) (o := { dst := some 3, op := Go.Op.assign (Go.Operand.const (Go.Value.int Go.IntKind.i64 0)), type := 29, pos := "mini.go:20", after := #[{ on := 4, ground := Go.Ground.chain }, { on := 0, ground := Go.Ground.phase }, { on := 1, ground := Go.Ground.phase }, { on := 2, ground := Go.Ground.phase }, { on := 3, ground := Go.Ground.phase }, { on := 4, ground := Go.Ground.phase }], guard := none }) (by kernel_rfl) rfl (fun K' hK => ?_)
   go_simp
   refine hK.out _ _ (fun h => absurd h (by decide)) ?_
   clear hK K'
   try simp only [Act.put, List.setIfInBounds_toArray, List.set_cons_zero, List.set_cons_succ]
   refine anyT_done (by kernel_rfl) ?_ _
   go_wp2_with fail
   refine bodyPost_ret (v := .tuple #[.agg dm, .int .i64 0]) (results30 rfl _ _ wa.heap.size dm 0 rfl rfl (setRow_heap _ wa.heap.size dvz dm 26 (0, 0) HRZ.out) HDM.out.2.1) rfl ?_
   refine .inr ⟨HV.out, Bk, M, st, nv', tv', by rw [HDM.out.1], HBL.out, HM.out.1, by have h9 := HM.out.2; rw [HDM.out.1] at h9; exact h9, row_below HB.out (by have := HSA.out; omega)⟩
  ·simp only [Region.wanted]
   rw [if_pos trivial]
   refine wp_load30' (.tmp 1) rfl w.heap.size rfl dc HN.out HSZ.out ?_
   refine hK.out _ _ (fun h => absurd h (by decide)) ?_
   clear hK K'
   try simp only [Act.put, List.setIfInBounds_toArray, List.set_cons_zero, List.set_cons_succ]
   refine anyT_two (i := 0) (k := 2) (o := { dst := some 8, op := Go.Op.load 26 (Go.Operand.tmp 1), type := 26, pos := "mini.go:20", after := #[], guard := none }) (p := { dst := some 10, op := Go.Op.call { callee := Go.Callee.value (Go.Operand.func 44), args := #[Go.Operand.tmp 9], argTypes := #[26] }, type := 87, pos := "mini.go:20", after := #[{ on := 1, ground := Go.Ground.data }], guard := none }) (by kernel_rfl) rfl rfl (fun K' hK => ?_) (fun K' hK => ?_)
   ·simp only [Region.wanted]
    rw [if_pos trivial]
    refine wp_load30' (.tmp 1) rfl w.heap.size rfl dc HN.out HSZ.out ?_
    refine hK.out _ _ (fun h => absurd h (by decide)) ?_
    clear hK K'
    try simp only [Act.put, List.setIfInBounds_toArray, List.set_cons_zero, List.set_cons_succ]
    refine anyT_one (i := 2) (o := { dst := some 10, op := Go.Op.call { callee := Go.Callee.value (Go.Operand.func 44), args := #[Go.Operand.tmp 9], argTypes := #[26] }, type := 87, pos := "mini.go:20", after := #[{ on := 1, ground := Go.Ground.data }], guard := none }) (by kernel_rfl) rfl (fun K' hK => ?_)
    go_simp
    refine KB.out.mono ?_
    rintro e w6 ⟨bo, bc, Bk, rfl, hrow, hblk, hbr, hb6⟩
    have HN := hid ((hb6.block _ (Array.getElem?_eq_some_iff.1 HN.out).1).trans HN.out)
    have HRZ := hid ((hb6.block _ (Array.getElem?_eq_some_iff.1 HRZ.out).1).trans HRZ.out)
    have HB := hid (HB.out.trans (hb6.mono HB.out.size))
    have KJ := joined_any (HDA.out.below hb6) HV.out.ok HNN.out hN hK1 hrow hblk hbr
    rw [HDC.out] at KJ
    have KJ := hid KJ
    have HBL := hid hblk
    have HSW := hid (show w.heap.size < w6.heap.size ∧ wa.heap.size < w6.heap.size from by have := (Array.getElem?_eq_some_iff.1 HN.out).1; have := (Array.getElem?_eq_some_iff.1 HRZ.out).1; omega)
    clear hb6 hrow hblk hbr KB HDA
    refine hK.out _ _ (fun h => absurd h (by decide)) ?_
    clear hK K'
    try simp only [Act.put, List.setIfInBounds_toArray, List.set_cons_zero, List.set_cons_succ]
    refine anyT_one (i := 3) (o := { dst := some 11, op := Go.Op.call { callee := Go.Callee.value (Go.Operand.func 43), args := #[Go.Operand.tmp 8, Go.Operand.tmp 10], argTypes := #[26, 87] }, type := 26, pos := "mini.go:20", after := #[{ on := 0, ground := Go.Ground.data }, { on := 2, ground := Go.Ground.data }, { on := 2, ground := Go.Ground.chain }], guard := none }) (by kernel_rfl) rfl (fun K' hK => ?_)
    go_simp
    refine KJ.out.mono ?_
    rintro e w7 ⟨M, st, nv', tv', rfl, hj, hda7, hb7⟩
    have HRZ := hid ((hb7.block _ (Array.getElem?_eq_some_iff.1 HRZ.out).1).trans HRZ.out)
    have HB := hid (HB.out.trans (hb7.mono HB.out.size))
    have HM := hid (And.intro hj (show DNew w.heap.size (w7.setRow wa.heap.size (dval M nv' tv')) nv' tv' M from fun w2 hk => hda7 w2 fun g hg => (hk g (by have := HSW.out; have := HSA.out; omega)).trans (setRow_other _ _ _ _ (by have := HSW.out; have := HSA.out; omega))))
    obtain ⟨dm, hdm⟩ : ∃ dm, dval M nv' tv' = dm := ⟨_, rfl⟩
    rw [hdm]
    have HDM := hid (And.intro hdm (And.intro (show dm.size = 258 from by rw [← hdm]; exact dval_size hda7.at_) (show dm.all (·.oneCell') = true from by rw [← hdm]; exact dval_one' hda7.at_)))
    clear hb7 hj hda7 hdm KJ
    refine hK.out _ _ (fun h => absurd h (by decide)) ?_
    clear hK K'
    try simp only [Act.put, List.setIfInBounds_toArray, List.set_cons_zero, List.set_cons_succ]
    refine anyT_one (i := 4) (o := { dst := none, op := Go.Op.store 26 (Go.Operand.tmp 2) (Go.Operand.tmp 11), type := 0, pos := "mini.go:20", after := #[{ on := 3, ground := Go.Ground.data }, { on := 3, ground := Go.Ground.chain }, { on := 0, ground := Go.Ground.phase }, { on := 1, ground := Go.Ground.phase }, { on := 2, ground := Go.Ground.phase }, { on := 3, ground := Go.Ground.phase }], guard := none }) (by kernel_rfl) rfl (fun K' hK => ?_)
    simp only [Region.wanted]
    rw [if_pos trivial]
    refine wp_store30' (.tmp 2) (.tmp 11) rfl wa.heap.size rfl dvz dm HRZ.out rfl dvz_size HDM.out.2.1 HDM.out.2.2 ?_
    refine hK.out _ _ (fun h => absurd h (by decide)) ?_
    clear hK K'
    try simp only [Act.put, List.setIfInBounds_toArray, List.set_cons_zero, List.set_cons_succ]
    refine anyT_one (i := 5) (o := { dst := some 3, op := Go.Op.assign (Go.Operand.const (Go.Value.int Go.IntKind.i64 0)), type := 29, pos := "mini.go:20", after := #[{ on := 4, ground := Go.Ground.chain }, { on := 0, ground := Go.Ground.phase }, { on := 1, ground := Go.Ground.phase }, { on := 2, ground := Go.Ground.phase }, { on := 3, ground := Go.Ground.phase }, { on := 4, ground := Go.Ground.phase }], guard := none }) (by kernel_rfl) rfl (fun K' hK => ?_)
    go_simp
    refine hK.out _ _ (fun h => absurd h (by decide)) ?_
    clear hK K'
    try simp only [Act.put, List.setIfInBounds_toArray, List.set_cons_zero, List.set_cons_succ]
    refine anyT_done (by kernel_rfl) ?_ _
    go_wp2_with fail
    refine bodyPost_ret (v := .tuple #[.agg dm, .int .i64 0]) (results30 rfl _ _ wa.heap.size dm 0 rfl rfl (setRow_heap _ wa.heap.size dvz dm 26 (0, 0) HRZ.out) HDM.out.2.1) rfl ?_
    refine .inr ⟨HV.out, Bk, M, st, nv', tv', by rw [HDM.out.1], HBL.out, HM.out.1, by have h9 := HM.out.2; rw [HDM.out.1] at h9; exact h9, row_below HB.out (by have := HSA.out; omega)⟩
   ·go_simp
    refine KB.out.mono ?_
    rintro e w6 ⟨bo, bc, Bk, rfl, hrow, hblk, hbr, hb6⟩
    have HN := hid ((hb6.block _ (Array.getElem?_eq_some_iff.1 HN.out).1).trans HN.out)
    have HRZ := hid ((hb6.block _ (Array.getElem?_eq_some_iff.1 HRZ.out).1).trans HRZ.out)
    have HB := hid (HB.out.trans (hb6.mono HB.out.size))
    have KJ := joined_any (HDA.out.below hb6) HV.out.ok HNN.out hN hK1 hrow hblk hbr
    rw [HDC.out] at KJ
    have KJ := hid KJ
    have HBL := hid hblk
    have HSW := hid (show w.heap.size < w6.heap.size ∧ wa.heap.size < w6.heap.size from by have := (Array.getElem?_eq_some_iff.1 HN.out).1; have := (Array.getElem?_eq_some_iff.1 HRZ.out).1; omega)
    clear hb6 hrow hblk hbr KB HDA
    refine hK.out _ _ (fun h => absurd h (by decide)) ?_
    clear hK K'
    try simp only [Act.put, List.setIfInBounds_toArray, List.set_cons_zero, List.set_cons_succ]
    refine anyT_one (i := 0) (o := { dst := some 8, op := Go.Op.load 26 (Go.Operand.tmp 1), type := 26, pos := "mini.go:20", after := #[], guard := none }) (by kernel_rfl) rfl (fun K' hK => ?_)
    simp only [Region.wanted]
    rw [if_pos trivial]
    refine wp_load30' (.tmp 1) rfl w.heap.size rfl dc HN.out HSZ.out ?_
    refine hK.out _ _ (fun h => absurd h (by decide)) ?_
    clear hK K'
    try simp only [Act.put, List.setIfInBounds_toArray, List.set_cons_zero, List.set_cons_succ]
    refine anyT_one (i := 3) (o := { dst := some 11, op := Go.Op.call { callee := Go.Callee.value (Go.Operand.func 43), args := #[Go.Operand.tmp 8, Go.Operand.tmp 10], argTypes := #[26, 87] }, type := 26, pos := "mini.go:20", after := #[{ on := 0, ground := Go.Ground.data }, { on := 2, ground := Go.Ground.data }, { on := 2, ground := Go.Ground.chain }], guard := none }) (by kernel_rfl) rfl (fun K' hK => ?_)
    go_simp
    refine KJ.out.mono ?_
    rintro e w7 ⟨M, st, nv', tv', rfl, hj, hda7, hb7⟩
    have HRZ := hid ((hb7.block _ (Array.getElem?_eq_some_iff.1 HRZ.out).1).trans HRZ.out)
    have HB := hid (HB.out.trans (hb7.mono HB.out.size))
    have HM := hid (And.intro hj (show DNew w.heap.size (w7.setRow wa.heap.size (dval M nv' tv')) nv' tv' M from fun w2 hk => hda7 w2 fun g hg => (hk g (by have := HSW.out; have := HSA.out; omega)).trans (setRow_other _ _ _ _ (by have := HSW.out; have := HSA.out; omega))))
    obtain ⟨dm, hdm⟩ : ∃ dm, dval M nv' tv' = dm := ⟨_, rfl⟩
    rw [hdm]
    have HDM := hid (And.intro hdm (And.intro (show dm.size = 258 from by rw [← hdm]; exact dval_size hda7.at_) (show dm.all (·.oneCell') = true from by rw [← hdm]; exact dval_one' hda7.at_)))
    clear hb7 hj hda7 hdm KJ
    refine hK.out _ _ (fun h => absurd h (by decide)) ?_
    clear hK K'
    try simp only [Act.put, List.setIfInBounds_toArray, List.set_cons_zero, List.set_cons_succ]
    refine anyT_one (i := 4) (o := { dst := none, op := Go.Op.store 26 (Go.Operand.tmp 2) (Go.Operand.tmp 11), type := 0, pos := "mini.go:20", after := #[{ on := 3, ground := Go.Ground.data }, { on := 3, ground := Go.Ground.chain }, { on := 0, ground := Go.Ground.phase }, { on := 1, ground := Go.Ground.phase }, { on := 2, ground := Go.Ground.phase }, { on := 3, ground := Go.Ground.phase }], guard := none }) (by kernel_rfl) rfl (fun K' hK => ?_)
    simp only [Region.wanted]
    rw [if_pos trivial]
    refine wp_store30' (.tmp 2) (.tmp 11) rfl wa.heap.size rfl dvz dm HRZ.out rfl dvz_size HDM.out.2.1 HDM.out.2.2 ?_
    refine hK.out _ _ (fun h => absurd h (by decide)) ?_
    clear hK K'
    try simp only [Act.put, List.setIfInBounds_toArray, List.set_cons_zero, List.set_cons_succ]
    refine anyT_one (i := 5) (o := { dst := some 3, op := Go.Op.assign (Go.Operand.const (Go.Value.int Go.IntKind.i64 0)), type := 29, pos := "mini.go:20", after := #[{ on := 4, ground := Go.Ground.chain }, { on := 0, ground := Go.Ground.phase }, { on := 1, ground := Go.Ground.phase }, { on := 2, ground := Go.Ground.phase }, { on := 3, ground := Go.Ground.phase }, { on := 4, ground := Go.Ground.phase }], guard := none }) (by kernel_rfl) rfl (fun K' hK => ?_)
    go_simp
    refine hK.out _ _ (fun h => absurd h (by decide)) ?_
    clear hK K'
    try simp only [Act.put, List.setIfInBounds_toArray, List.set_cons_zero, List.set_cons_succ]
    refine anyT_done (by kernel_rfl) ?_ _
    go_wp2_with fail
    refine bodyPost_ret (v := .tuple #[.agg dm, .int .i64 0]) (results30 rfl _ _ wa.heap.size dm 0 rfl rfl (setRow_heap _ wa.heap.size dvz dm 26 (0, 0) HRZ.out) HDM.out.2.1) rfl ?_
    refine .inr ⟨HV.out, Bk, M, st, nv', tv', by rw [HDM.out.1], HBL.out, HM.out.1, by have h9 := HM.out.2; rw [HDM.out.1] at h9; exact h9, row_below HB.out (by have := HSA.out; omega)⟩
end Go.Proofs.YtochckefnjobhaaGreatDoor
namespace Go.Proofs.YtochckefnjobhaaGreatDoor
open Go Go.RowKit Go.Lib
open X3 (RX Pl)
open X5 (Aut)
set_option linter.unusedVariables false
set_option linter.unusedSimpArgs false
def erX (s : ByteArray) : Nat := match X3.parseX (LL s) with | .inl c => c | .inr _ => 0
def parsesX : List ByteArray → Nat ⊕ List RX
 | [] => .inr []
 | s :: l => match peX s with
  | none => .inl (erX s)
  | some r => match parsesX l with
   | .inl c => .inl c
   | .inr L => .inr (r :: L)
theorem parses_ok : ∀ {l : List ByteArray} {L : List RX}, l.mapM peX = some L → parsesX l = .inr L
 | [], L, h => by
  have : L = [] := by simpa using h.symm
  rw [this]; rfl
 | s :: l, L, h => by
  rw [List.mapM_cons] at h
  simp only [bind, Option.bind_eq_some_iff, pure, Option.some.injEq] at h
  obtain ⟨r, hr, L', hL, rfl⟩ := h
  rw [parsesX, hr]
  simp only [parses_ok hL]
theorem parses_err : ∀ {l : List ByteArray} {k : Nat} {L : List RX} {t : ByteArray}, (l.take k).mapM peX = some L → l[k]? = some t → peX t = none → parsesX l = .inl (erX t)
 | [], k, L, t, _, h, _ => by simp at h
 | s :: l, 0, L, t, _, h, hn => by
  have : s = t := by simpa using h
  subst this
  rw [parsesX, hn]
 | s :: l, k + 1, L, t, h, hk, hn => by
  rw [List.take_succ_cons, List.mapM_cons] at h
  simp only [bind, Option.bind_eq_some_iff, pure, Option.some.injEq] at h
  obtain ⟨r, hr, L', hL, rfl⟩ := h
  rw [parsesX, hr]
  simp only [parses_err hL (by simpa using hk) hn]
theorem mapM_snoc {l : List ByteArray} {k : Nat} {L : List RX} {t : ByteArray} {r : RX} (h : (l.take k).mapM peX = some L) (hk : l[k]? = some t) (hr : peX t = some r) : (l.take (k + 1)).mapM peX = some (L ++ [r]) := by
 rw [List.take_add_one, hk, List.mapM_append, h]
 simp [hr]
theorem mapM_len : ∀ {l : List ByteArray} {L : List RX}, l.mapM peX = some L → L.length = l.length
 | [], L, h => by
  have : L = [] := by simpa using h.symm
  rw [this]; rfl
 | s :: l, L, h => by
  rw [List.mapM_cons] at h
  simp only [bind, Option.bind_eq_some_iff, pure, Option.some.injEq] at h
  obtain ⟨r, hr, L', hL, rfl⟩ := h
  rw [List.length_cons, List.length_cons, mapM_len hL]
theorem mapM_size : ∀ {l : List ByteArray} {L : List RX}, l.mapM peX = some L → ∀ r ∈ L, r.size ≤ 500
 | [], L, h => by
  have : L = [] := by simpa using h.symm
  rw [this]; intro r hr; cases hr
 | s :: l, L, h => by
  rw [List.mapM_cons] at h
  simp only [bind, Option.bind_eq_some_iff, pure, Option.some.injEq] at h
  obtain ⟨r, hr, L', hL, rfl⟩ := h
  intro x hx
  rcases List.mem_cons.1 hx with rfl | hx
  ·exact peX_size hr
  ·exact mapM_size hL x hx
theorem parse_opt2 (s : ByteArray) (w : World) (hm : s.size ≤ maxLen) : ∃ (E : Int) (R : RX), ((E = 0 ∧ peX s = some R) ∨ (E ≠ 0 ∧ peX s = none ∧ E = (erX s : Int))) ∧ Calls Tryz.prog 19 #[.string s] w fun e w' => ∃ (k x y z u : Int) (o : Option Addr) (n cc : Nat), e = .returned (.tuple #[nodeV k x y z u (.slice o n cc), .int .i64 E]) ∧ Below w.heap.size w w' ∧ Rep w.heap.size w' R (nodeV k x y z u (.slice o n cc)) := by
 have hp := parse_any s w hm
 unfold peX erX
 cases hX : X3.parseX (LL s) with
 | inl c =>
  rw [hX] at hp
  refine ⟨(c : Int), .empty, ?_, hp.mono ?_⟩
  ·by_cases h : c = 0
   ·subst h; exact .inl ⟨rfl, rfl⟩
   ·exact .inr ⟨by omega, by simp [h], rfl⟩
  ·rintro e w' ⟨rfl, hb⟩
   exact ⟨0, 0, 0, 0, 0, none, 0, 0, rfl, hb, .empty⟩
 | inr r =>
  rw [hX] at hp
  refine ⟨0, r, .inl ⟨rfl, rfl⟩, hp.mono ?_⟩
  rintro e w' ⟨v, rfl, hR, hb⟩
  obtain ⟨k, x, y, z, u, o, n, c, rfl⟩ := hR.shape
  exact ⟨k, x, y, z, u, o, n, c, rfl, hb, hR⟩
def OfP (l : List ByteArray) (w : World) (e : Ending) (w' : World) : Prop :=
 Below w.heap.size w w' ∧ match parsesX l with
  | .inl c => e = .returned (.tuple #[.agg dvz, .int .i64 (c : Int)])
  | .inr L => ((many L ∨ Big L) ∧ e = .returned (.tuple #[.agg dvz, .int .i64 4])) ∨
    ∃ (D : Aut) (SS : List (List Nat)) (A0 : List Nat) (Bk : List Int) (M : Aut) (st : List Nat) (nv tv : Value), ¬ many L ∧ AtN L [] A0 ∧ Sets L A0 D SS ∧ SS.length ≤ 2000 ∧ X6.Vd D ∧ X6.Blk (X5.rowOf D 0).length D Bk ∧ X6.IsJ D Bk M st ∧
     e = .returned (.tuple #[.agg (dval M nv tv), .int .i64 0]) ∧ DNew w.heap.size w' nv tv M
theorem sets_few {L : List RX} {A0 : List Nat} {D : Aut} {SS : List (List Nat)} (h : Sets L A0 D SS) (hs : SS.length ≤ 2000) : D.next.length ≤ 1000000 ∧ D.tags.length ≤ 1000000 ∧ (X5.rowOf D 0).length ≤ 1000000 ∧ D.next.length * (X5.rowOf D 0).length ≤ 1000000 := by
 have h1 := h.nlen
 have h2 := h.tlen
 have h3 := (h.rows 0 A0 h.begin_).1
 have h4 := X5.fs_len (clsX L) 256
 refine ⟨by omega, by omega, by omega, ?_⟩
 have h5 : D.next.length * (X5.rowOf D 0).length ≤ 2000 * 256 := Nat.mul_le_mul (by omega) (by omega)
 omega
set_option maxRecDepth 100000 in
set_option maxHeartbeats 8000000 in
theorem texts_any (l : List ByteArray) (w : World) (v : Value) (h : TextsAt w v l) (hl : l.length ≤ 1000) {Bt : Nat} (ht : Tab Bt w) (hBt : Bt ≤ w.heap.size) : Calls Tryz.prog 18 #[v] w (OfP l w) := by
 obtain ⟨w0, e0⟩ : ∃ w0, w.alloc (.cells dvz 26) = w0 := ⟨_, rfl⟩
 have hb0 : Below w.heap.size w w0 := by rw [← e0]; exact (Below.refl _ _).alloc (Nat.le_refl _) _
 have hs0 : w0.heap.size = w.heap.size + 1 := by rw [← e0]; simp
 have hn0 : w0.heap[w.heap.size]? = some (.cells dvz 26 (0, 0)) := by rw [← e0]; exact new_block _ _
 obtain ⟨vo, vc, rfl, hrow⟩ := (h.below hb0).sh
 have HT := hid h
 have HROW := hid hrow
 have H0 := hid (And.intro hb0 (And.intro hs0 hn0))
 have HTab := hid ht
 clear h hrow hb0 hs0 hn0 ht
 go_enter Tryz.func18, Tryz.ntmps18
 go_wp2_with (with_reducible refine wpList_made30 rfl rfl ?_)
 go_loopw [4, 13] (fun t4 t13 wr => ∃ (k : Nat) (L : List RX), k ≤ l.length ∧ t13 = .int .i64 (k : Int) ∧ Hid ((l.take k).mapM peX = some L) ∧ Hid (RowOf w0.heap.size wr t4 L) ∧ Hid (Below w0.heap.size w0 wr)) (fun _ t13 _ => l.length - (RowKit.intOf t13).toNat)
 case atStart => exact ⟨0, [], Nat.zero_le _, rfl, hid rfl, hid (RowOf.nil _ _), hid (Below.refl _ _)⟩
 case round =>
  obtain ⟨k, L, hk, rfl, HL, HRow, HB⟩ := hrel
  have hszr := HB.out.size
  by_cases hlt : k < l.length
  ·obtain ⟨b, off, rfl, hbl, hc0⟩ := HROW.out k hlt
   have hc := (World.cell?_of_block (a := ⟨b, off + k, none⟩) (HB.out.block b hbl)).trans hc0
   have h1 : (k : Int) < (l.length : Int) := by omega
   have h2 : (0 : Int) ≤ (k : Int) := by omega
   obtain ⟨E, R, hE, hKP⟩ := parse_opt2 l[k] wr (HT.out.le _ (List.getElem_mem hlt))
   have KP := hid hKP
   have hlk : l[k]? = some l[k] := List.getElem?_eq_getElem hlt
   have hlen : L.length ≤ k := by rw [mapM_len HL.out]; simp; omega
   have HEE := hid hE
   have HLK := hid hlk
   clear hKP hE hc0 hlk
   generalize l[k] = t at *
   go_wp2_with fail
   refine KP.out.mono ?_
   rintro e w2 ⟨k', x, y, z, u, o, nn, cc, rfl, hb2, hR⟩
   have hR2 : RepS (fun g => g < w2.heap.size) w2 R (nodeV k' x y z u (.slice o nn cc)) := hR.monoS fun g _ hl => hl
   obtain ⟨wa, ea, hx, hba, hsa⟩ := box_new hR2
   obtain ⟨p0, p1, p2, p3, p4, p5⟩ := cells6 hx.1
   have hs2 := hb2.size
   rcases HEE.out with ⟨rfl, hpe⟩ | ⟨hE, hpe, hEq⟩
   ·obtain ⟨w3, e3⟩ : ∃ w3, wa.alloc (.cells #[.int .i64 k', .int .u64 x, .int .u64 y, .int .u64 z, .int .u64 u, .slice o nn cc] 46) = w3 := ⟨_, rfl⟩
    have hb3 : Below wa.heap.size wa w3 := by rw [← e3]; exact (Below.refl _ _).alloc (Nat.le_refl _) _
    have hn3 : w3.heap[wa.heap.size]? = some (.cells #[.int .i64 k', .int .u64 x, .int .u64 y, .int .u64 z, .int .u64 u, .slice o nn cc] 46 (0, 0)) := by rw [← e3]; exact new_block _ _
    have hs3 : w3.heap.size = wa.heap.size + 1 := by rw [← e3]; simp
    have hB3 : Below w2.heap.size w2 w3 := hba.trans (hb3.mono (by omega))
    obtain ⟨VS, hreps, hown⟩ := HRow.out.below hb2
    have HOWN := hid (owns_below hown hB3)
    have HREPS := hid hreps
    have HLT := hid HRow.out.lt
    have HRR := hid hR
    have HB3 := hid hB3
    have HBA := hid (HB.out.trans ((hb2.mono hszr).trans (hB3.mono (Nat.le_trans hszr hs2))))
    obtain ⟨i0, hi, hz0, hz1, hz2⟩ := info_parts info28
    have hw3 : w0.heap.size ≤ w3.heap.size := by omega
    have HPE := hid hpe
    have HS3 := hid (And.intro hsa hs3)
    clear hR hR2 hx hba hb3 hB3 hreps hown hpe hsa hs3 hb2
    go_wp2_with (at_builtin; go_loud (refine wpList_append_own_at _ rfl _ _ 44 rfl w0.heap.size 46 i0 (.agg zero6) 6 64 Tryz.underlying44 hi hz0 hz1 hz2 rfl (by decide) _ _ _ rfl HOWN.out ⟨wa.heap.size, 0, none⟩ 1 1 [.int .i64 k', .int .u64 x, .int .u64 y, .int .u64 z, .int .u64 u, .slice o nn cc] rfl rfl ?c1 ?c2 ?c3 ?c4 ?c5 ?_))
    case c1 =>
     intro j v hj
     have := Lib.cell_of_heap hn3 j
     first | rw [show (⟨wa.heap.size, 0, none⟩ : Addr).add j = ⟨wa.heap.size, j, none⟩ by simp [Addr.add]; omega] | skip
     rw [this, ← hj]
     simp
    case c2 => first | (intro v hv; simp at hv; rcases hv with rfl | rfl | rfl | rfl | rfl | rfl <;> rfl) | simp [Value.oneCell']
    case c3 => unfold maxLen; omega
    case c4 => omega
    try (case c5 => exact hw3)
    intro v' w4 hown' hgrow hnil hat
    have hrow4 : Hid (RowOf w0.heap.size w4 v' (L ++ [R])) := hid (row_push HREPS.out HLT.out hszr HRR.out HB3.out hown' hgrow hat)
    have HB4 := hid (HBA.out.grown hgrow hw3 (fun q hq => (HLT.out q hq).1))
    clear hown' hgrow hnil hat hn3 e3
    go_wp2_with fail
    refine ⟨⟨k + 1, L ++ [R], by omega, rfl, hid (mapM_snoc HL.out HLK.out HPE.out), hrow4, HB4⟩, ?_⟩
    show l.length - ((k : Int) + 1).toNat < l.length - ((k : Int)).toNat
    omega
   ·have hE2 : (E != 0) = true := by simpa using hE
    have hE3 : decide (E = 0) = false := by simpa using hE
    have HBA := hid (HB.out.trans ((hb2.trans (hba.mono hs2)).mono hszr))
    have HPR := hid (parses_err HL.out HLK.out hpe)
    have HEQ := hid hEq
    have HRB := hid (show wa.heap[w.heap.size]? = some (.cells dvz 26 (0, 0)) from (HBA.out.block _ (by have := H0.out; omega)).trans H0.out.2.2)
    clear hR hR2 hx hba hpe hE hb2 hEq
    go_wp2_with (first | (with_reducible refine wpList_none30 rfl rfl ?_) | (with_reducible refine wpList_store30 rfl (.tmp 2) (.tmp 24) rfl w.heap.size rfl dvz dvz HRB.out rfl dvz_size dvz_size dvz_one ?_))
    refine bodyPost_ret (v := .tuple #[.agg dvz, .int .i64 E]) (results30 rfl _ _ w.heap.size dvz E rfl rfl (setRow_heap _ w.heap.size dvz dvz 26 (0, 0) HRB.out) dvz_size) rfl ?_
    refine ⟨row_below (H0.out.1.trans (HBA.out.mono H0.out.1.size)) (Nat.le_refl _), ?_⟩
    rw [HPR.out, HEQ.out]
  ·have h1 : ¬ (k : Int) < (l.length : Int) := by omega
   obtain rfl : k = l.length := by omega
   rw [List.take_length] at HL
   have hbw : Below w.heap.size w wr := H0.out.1.trans (HB.out.mono H0.out.1.size)
   have HLS := hid (mapM_size HL.out)
   have HLN := hid (mapM_len HL.out)
   have KB := hid (dfa_build_any2 L wr u4 (RowR.ofRow HRow.out) (fun q hq => Nat.le_trans (HLS.out _ (List.getElem_mem hq)) (by omega)) (by have := HLN.out; omega) (HTab.out.on (hbw.mono hBt)) (Nat.le_trans hBt hbw.size))
   have HPO := hid (parses_ok HL.out)
   have HBW := hid hbw
   have HRB := hid (show wr.heap[w.heap.size]? = some (.cells dvz 26 (0, 0)) from (HB.out.block _ (by have := H0.out; omega)).trans H0.out.2.2)
   have hrbl := (Array.getElem?_eq_some_iff.1 HRB.out).1
   clear hbw e0
   go_wp2_with fail
   refine KB.out.mono ?_
   rintro e w5 ⟨hb5, hres⟩
   have HB5 := hid hb5
   have HRB5 := hid ((hb5.block _ hrbl).trans HRB.out)
   have HB5w := hid (HBW.out.trans (hb5.mono HBW.out.size))
   have hs5 := hb5.size
   rcases hres with ⟨hmb, rfl⟩ | ⟨D, SS, A0, nv, tv, hnm, rfl, hat, hsets, hda, hfew⟩
   ·have HMB := hid hmb
    have HNB := hid (new_block w5 (.cells dvz 26))
    obtain ⟨w6, e6⟩ : ∃ w6, (w5.alloc (.cells dvz 26)).setRow w5.heap.size dvz = w6 := ⟨_, rfl⟩
    have hb6 : Below w5.heap.size w5 w6 := by rw [← e6]; exact row_below ((Below.refl _ _).alloc (Nat.le_refl _) _) (Nat.le_refl _)
    have HRB6 := hid ((hb6.block _ (by omega)).trans HRB5.out)
    have HB6 := hid (HB5w.out.trans (hb6.mono HB5w.out.size))
    clear hmb hb5 hb6 KB
    go_wp2_with (first | (with_reducible refine wpList_made30 rfl rfl ?_) | (with_reducible refine wpList_store30 rfl (.tmp 9) (.tmp 34) rfl w5.heap.size rfl dvz dvz HNB.out rfl dvz_size dvz_size dvz_one ?_) | (with_reducible refine wpList_none30 rfl rfl ?_) | (with_reducible refine wpList_store30 rfl (.tmp 2) (.tmp 38) rfl w.heap.size rfl dvz dvz HRB6.out rfl dvz_size dvz_size dvz_one ?_))
    refine bodyPost_ret (v := .tuple #[.agg dvz, .int .i64 4]) (results30 rfl _ _ w.heap.size dvz 4 rfl rfl (setRow_heap _ w.heap.size dvz dvz 26 (0, 0) HRB6.out) dvz_size) rfl ?_
    refine ⟨row_below HB6.out (Nat.le_refl _), ?_⟩
    rw [HPO.out]
    exact .inl ⟨HMB.out, rfl⟩
   ·obtain ⟨dd, hdd⟩ : ∃ dd, dval D nv tv = dd := ⟨_, rfl⟩
    have HDD := hid (And.intro (show dd.size = 258 from by rw [← hdd]; exact dval_size hda) (show dd.all (·.oneCell') = true from by rw [← hdd]; exact dval_one' hda))
    have HNB := hid (new_block w5 (.cells dvz 26))
    obtain ⟨w6, e6⟩ : ∃ w6, (w5.alloc (.cells dvz 26)).setRow w5.heap.size dd = w6 := ⟨_, rfl⟩
    have hb6 : Below w5.heap.size w5 w6 := by rw [← e6]; exact row_below ((Below.refl _ _).alloc (Nat.le_refl _) _) (Nat.le_refl _)
    have HD6 := hid (show w6.heap[w5.heap.size]? = some (.cells dd 26 (0, 0)) from by rw [← e6]; exact setRow_heap _ _ dvz dd 26 (0, 0) HNB.out)
    have HRB6 := hid ((hb6.block _ (by omega)).trans HRB5.out)
    have HB6 := hid (HB5w.out.trans (hb6.mono HB5w.out.size))
    have hrb6 : w.heap.size < w6.heap.size := by have := hb6.size; omega
    have hfw := sets_few hsets hfew
    have KL := least_any (hda.below hb6) hfw.1 hfw.2.1 hfw.2.2.1 hfw.2.2.2
    rw [hdd] at KL ⊢
    have KL := hid KL
    have hsv := sets_valid hsets
    have HV := hid (show X6.Vd D from by
     have h0 := (hsets.rows 0 A0 hsets.begin_).1
     refine ⟨⟨fun e => by have := hsv.1; rw [e] at this; simp at this, hsv.2.1, fun i hi => ?_, fun i hi x hx => ?_⟩, fun c hc => ?_⟩
     ·rw [h0]; exact (hsv.2.2.2 _ (List.mem_of_getElem? (rowOf_get hi))).1
     ·exact (hsv.2.2.2 _ (List.mem_of_getElem? (rowOf_get hi))).2 x hx
     ·rw [hsets.cls] at hc
      obtain ⟨q, hq, rfl⟩ := List.mem_map.1 hc
      have := hsv.2.2.1 q hq
      rw [h0]
      show 0 ≤ (q : Int) ∧ (q : Int) < ((Fx L).length : Int)
      omega)
    have HS := hid (And.intro hnm (And.intro hat (And.intro hsets hfew)))
    clear hnm hat hsets hda hfew hb5 hb6 hdd hfw hsv KB
    go_wp2_with (first | (with_reducible refine wpList_made30 rfl rfl ?_) | (with_reducible refine wpList_store30 rfl (.tmp 9) (.tmp 34) rfl w5.heap.size rfl dvz dd HNB.out rfl dvz_size HDD.out.1 HDD.out.2 ?_) | (with_reducible refine wpList_load30 rfl (.tmp 9) rfl w5.heap.size rfl dd HD6.out HDD.out.1 ?_))
    refine KL.out.mono ?_
    rintro e w7 hlp
    rcases hlp with ⟨hnv, _, _⟩ | ⟨_, Bk, M, st, nv', tv', rfl, hblk, hisj, hnew, hb7⟩
    ·exact absurd HV.out hnv
    have HRB7 := hid ((hb7.block _ hrb6).trans HRB6.out)
    obtain ⟨dm, hdm⟩ : ∃ dm, dval M nv' tv' = dm := ⟨_, rfl⟩
    have HDM := hid (And.intro hdm (And.intro (show dm.size = 258 from by rw [← hdm]; exact dval_size hnew.at_) (show dm.all (·.oneCell') = true from by rw [← hdm]; exact dval_one' hnew.at_)))
    have HM := hid (And.intro hblk (And.intro hisj (And.intro hnew hb7)))
    rw [hdm]
    clear hblk hisj hnew hb7 hdm KL e6
    go_wp2_with (with_reducible refine wpList_store30 rfl (.tmp 2) (.tmp 42) rfl w.heap.size rfl dvz dm HRB7.out rfl dvz_size HDM.out.2.1 HDM.out.2.2 ?_)
    refine bodyPost_ret (v := .tuple #[.agg dm, .int .i64 0]) (results30 rfl _ _ w.heap.size dm 0 rfl rfl (setRow_heap _ w.heap.size dvz dm 26 (0, 0) HRB7.out) HDM.out.2.1) rfl ?_
    refine ⟨row_below (HB6.out.trans (HM.out.2.2.2.mono HB6.out.size)) (Nat.le_refl _), ?_⟩
    rw [HPO.out]
    exact .inr ⟨D, SS, A0, Bk, M, st, nv', tv', HS.out.1, HS.out.2.1, HS.out.2.2.1, HS.out.2.2.2, HV.out, HM.out.1, HM.out.2.1, by rw [HDM.out.1], fun w2 hk => HM.out.2.2.1 w2 fun g hg => (hk g (by omega)).trans (setRow_other _ _ _ _ (by omega))⟩
end Go.Proofs.YtochckefnjobhaaGreatDoor
namespace Go.Proofs.YtochckefnjobhaaGreatDoor
open Go Go.RowKit Go.Lib
open X5 (Aut)
set_option linter.unusedVariables false
set_option linter.unusedSimpArgs false
def LitP (D : Aut) (w : World) (e : Ending) (w' : World) : Prop := ∃ b : Bool, e = .returned (.bool b) ∧ (b = true ↔ X6.Lit D) ∧ Below w.heap.size w w'
set_option maxRecDepth 100000 in
set_option maxHeartbeats 4000000 in
theorem little_any {w : World} {nv tv : Value} {D : Aut} (h : DAt w nv tv D) : Calls Tryz.prog 12 #[.agg (dval D nv tv)] w (LitP D w) := by
 obtain ⟨dc, hdc⟩ : ∃ dc, dval D nv tv = dc := ⟨_, rfl⟩
 have HD256 := hid (dcell_next h.len nv tv)
 have HD257 := hid (dcell_tags h.len nv tv)
 rw [hdc] at HD256 HD257 ⊢
 obtain ⟨no, nc, rfl⟩ := rows_shape h.rows
 obtain ⟨to, tc, rfl⟩ := tags_shape h.tags
 obtain ⟨wa, ea⟩ : ∃ wa, w.alloc (.cells dc 26) = wa := ⟨_, rfl⟩
 have hba : Below w.heap.size w wa := by rw [← ea]; exact (Below.refl _ _).alloc (Nat.le_refl _) _
 have hna : wa.heap[w.heap.size]? = some (.cells dc 26 (0, 0)) := by rw [← ea]; exact new_block _ _
 have c256 : wa.cell? ⟨w.heap.size, 256, none⟩ = some (.slice no D.next.length nc) := by rw [Lib.cell_of_heap hna]; exact HD256.out
 have c257 : wa.cell? ⟨w.heap.size, 257, none⟩ = some (.slice to D.tags.length tc) := by rw [Lib.cell_of_heap hna]; exact HD257.out
 have HDA := hid (h.below hba)
 have HBA := hid hba
 have hfew := h.few
 unfold maxLen at hfew
 have HSH := hid h.short
 obtain ⟨n, hn⟩ : ∃ n, D.next.length = n := ⟨_, rfl⟩
 obtain ⟨m, hm⟩ : ∃ m, D.tags.length = m := ⟨_, rfl⟩
 rw [hn] at c256
 rw [hm] at c257
 rw [hn, hm] at hfew
 have HN := hid (And.intro hn hm)
 clear h hdc hba hna hn hm
 go_enter Tryz.func12, Tryz.ntmps12
 go_wp2_with fail
 go_loopw [3] (fun t3 wr => ∃ i : Nat, i ≤ 30 ∧ i ≤ n ∧ t3 = .int .i64 (i : Int) ∧ wr = wa ∧ Hid (∀ (j : Nat) r, j < i → D.next[j]? = some r → r.length ≤ 20)) (fun t3 _ => 30 - (RowKit.intOf t3).toNat)
 case atStart => exact ⟨0, by omega, by omega, rfl, by first | trivial | rfl, hid (fun j r hj => by omega)⟩
 case round =>
  obtain ⟨i, hi, hin, rfl, hw, HQ⟩ := hrel
  have hw := hw.symm
  subst hw
  by_cases h1 : i < n
  ·have g1 : decide ((i : Int) < (n : Int)) = true := by simpa using h1
   by_cases h2 : i < 30
   ·have g2 : decide ((i : Int) < 30) = true := by simp; omega
    obtain ⟨r, hr⟩ : ∃ r, D.next[i]? = some r := ⟨_, List.getElem?_eq_getElem (by have := HN.out.1; omega)⟩
    obtain ⟨bn, offn, ro, rc, nc', hno, hbn, cn, _⟩ := rowsAt_get HDA.out.rows hr
    injection hno with hno1 hno2 hno3
    subst hno1
    have g3 : (0 : Int) ≤ (i : Int) := by omega
    have g4 : (i : Int) < (n : Int) := by omega
    have hrl := HSH.out r (List.mem_of_getElem? hr)
    unfold maxLen at hrl
    obtain ⟨q, hq⟩ : ∃ q, r.length = q := ⟨_, rfl⟩
    rw [hq] at cn hrl
    have HR := hid (And.intro hr hq)
    clear hno2 hno3 hr hq
    by_cases h3 : 20 < q
    ·have g5 : (20 : Int) < (q : Int) := by omega
     have HF := hid (show ¬ X6.Lit D from fun hl => by have := hl.2.2 r (List.mem_of_getElem? HR.out.1); have := HR.out.2; omega)
     go_wp2_with fail
     go_ret
     exact ⟨false, rfl, ⟨fun e => (by cases e), fun hv => absurd hv HF.out⟩, HBA.out⟩
    ·have g5 : ¬ (20 : Int) < (q : Int) := by omega
     have H3 := hid h3
     clear h3
     go_wp2_with fail
     refine ⟨⟨i + 1, by omega, by omega, rfl, by first | trivial | rfl, hid (fun j x hj hx => ?_)⟩, ?_⟩
     ·by_cases hj2 : j < i
      ·exact HQ.out j x hj2 hx
      ·obtain rfl : j = i := by omega
       rw [HR.out.1] at hx
       injection hx with hx
       have := HR.out.2
       have := H3.out
       rw [← hx]; omega
     ·show 30 - ((i : Int) + 1).toNat < 30 - ((i : Int)).toNat
      omega
   ·have g2 : decide ((i : Int) < 30) = false := by simp; omega
    have g6 : decide ((n : Int) < 30) = false := by simp; omega
    have HF := hid (show ¬ X6.Lit D from fun hl => by have := hl.1; have := HN.out.1; omega)
    go_wp2_with fail
    go_ret
    exact ⟨false, rfl, ⟨fun e => (by cases e), fun hv => absurd hv HF.out⟩, HBA.out⟩
  ·have g1 : decide ((i : Int) < (n : Int)) = false := by simpa using h1
   by_cases h2 : n < 30
   ·have g2 : decide ((n : Int) < 30) = true := by simp; omega
    obtain ⟨b, hb⟩ : ∃ b, decide ((m : Int) < 30) = b := ⟨_, rfl⟩
    have HB := hid (show b = true ↔ X6.Lit D from by
     rw [← hb, decide_eq_true_iff]
     have e1 := HN.out.1
     have e2 := HN.out.2
     constructor
     ·intro hm30
      refine ⟨by omega, by omega, fun r hr => ?_⟩
      obtain ⟨j, hj⟩ := List.mem_iff_getElem?.1 hr
      have := (List.getElem?_eq_some_iff.1 hj).1
      exact HQ.out j r (by omega) hj
     ·intro hl
      have := hl.2.1
      omega)
    cases b with
    | true =>
     go_wp2_with fail
     go_ret
     exact ⟨true, rfl, ⟨fun _ => HB.out.1 (by first | trivial | rfl), fun _ => rfl⟩, HBA.out⟩
    | false =>
     go_wp2_with fail
     go_ret
     exact ⟨false, rfl, ⟨fun e => (by cases e), fun h => by have := HB.out.2 h; simp at this⟩, HBA.out⟩
   ·have g2 : decide ((n : Int) < 30) = false := by simp; omega
    have HF := hid (show ¬ X6.Lit D from fun hl => by have := hl.1; have := HN.out.1; omega)
    go_wp2_with fail
    go_ret
    exact ⟨false, rfl, ⟨fun e => (by cases e), fun hv => absurd hv HF.out⟩, HBA.out⟩
end Go.Proofs.YtochckefnjobhaaGreatDoor
namespace Go.Proofs.YtochckefnjobhaaGreatDoor
open Go Go.RowKit Go.Lib
open X3 (RX Pl)
open X5 (Aut)
set_option linter.unusedVariables false
set_option linter.unusedSimpArgs false
theorem two_texts {w : World} {s t : ByteArray} (hs : s.size ≤ maxLen) (ht : t.size ≤ maxLen) {w' : World} (e : w.alloc (.cells #[.string s, .string t] 9) = w') : TextsAt w' (.slice (some ⟨w.heap.size, 0, none⟩) 2 2) [s, t] ∧ Below w.heap.size w w' := by
 have hb : Below w.heap.size w w' := by rw [← e]; exact (Below.refl _ _).alloc (Nat.le_refl _) _
 have hn : w'.heap[w.heap.size]? = some (.cells #[.string s, .string t] 9 (0, 0)) := by rw [← e]; exact new_block _ _
 refine ⟨⟨⟨some ⟨w.heap.size, 0, none⟩, 2, rfl, fun j hj => ⟨w.heap.size, 0, rfl, (Array.getElem?_eq_some_iff.1 hn).1, ?_⟩⟩, fun x hx => ?_, by unfold maxLen; simp⟩, hb⟩
 ·have : j = 0 ∨ j = 1 := by simp at hj; omega
  rcases this with rfl | rfl
  ·exact Lib.cell_of_heap hn 0
  ·exact Lib.cell_of_heap hn 1
 ·rcases List.mem_cons.1 hx with rfl | hx
  ·exact hs
  ·rw [List.mem_singleton.1 hx]; exact ht
def Bxx (b : Nat) (dd : Array Value) (w : World) : Prop := w.heap[b]? = some (.cells dd 26 (0, 0))
theorem Bxx.lt {b : Nat} {dd : Array Value} {w : World} (h : Bxx b dd w) : b < w.heap.size := (Array.getElem?_eq_some_iff.1 h).1
theorem Bxx.below {b : Nat} {dd : Array Value} {w w' : World} (h : Bxx b dd w) (hb : Below w.heap.size w w') : Bxx b dd w' := (hb.block _ h.lt).trans h
theorem kept_new (w : World) (dd : Array Value) : ∃ w', (w.alloc (.cells dvz 26)).setRow w.heap.size dd = w' ∧ Bxx w.heap.size dd w' ∧ Below w.heap.size w w' ∧ w'.heap.size = w.heap.size + 1 :=
 ⟨_, rfl, setRow_heap _ _ dvz dd 26 (0, 0) (new_block w (.cells dvz 26)), row_below ((Below.refl _ _).alloc (Nat.le_refl _) _) (Nat.le_refl _), by simp [World.setRow]⟩
end Go.Proofs.YtochckefnjobhaaGreatDoor
namespace Go.Proofs.YtochckefnjobhaaGreatDoor
open Go Go.RowKit Go.Lib Go.WideShapes Go.ChangeShapes Go.Deep
open X5 (Aut)
set_option linter.unusedVariables false
set_option linter.unusedSimpArgs false
section
variable {H : Type} {enc : TypeId × Value → H} {P : Program} {w : World} {base : Nat} {spare : Nat → Bool} {held : Bool}
theorem cell_plain {a : Addr} {v : Value} (h : w.cell? (a.add 0) = some v) : ∃ b off, a = ⟨b, off, none⟩ := by
 obtain ⟨b, off, spot⟩ := a
 have hspot : spot = none := by simpa [Addr.add] using World.cell?_spot h
 subst hspot
 exact ⟨b, off, rfl⟩
theorem open_block {t e : TypeId} {c fuel : Nat} {v : Value} {x : DataW H × List MemPlace} (ht : P.underlying t = some (.slice e)) (hc : P.cellsOf e = c) (h0 : 0 < c) (h : DataW.trod enc P w base spare held fuel t [v] = some x) :
  ∃ (a : Option Addr) (len cap : Nat) (V : Nat → Nat → Value), v = .slice a len cap ∧ len ≤ cap ∧ cap ≤ maxLen ∧ (0 < len → ∃ b off, a = some ⟨b, off, none⟩ ∧ ∀ i, i < len → ∀ j, j < c → w.cell? ⟨b, off + i * c + j, none⟩ = some (V i j)) ∧
   (∀ i, i < len → ∃ n y, DataW.trod enc P w base spare held n e ((List.range c).map (V i)) = some y) ∧ (a = none → cap = 0) := by
 rcases open_slice ht h with ⟨hcs, _⟩ | ⟨a, len, cap, m, n, D, Pl, hcs, hb, hl, hm, hmm, _, hx⟩
 ·simp only [List.cons.injEq, and_true] at hcs
  exact ⟨none, 0, 0, fun _ _ => undef, hcs, Nat.le_refl _, Nat.zero_le _, fun h => absurd h (Nat.lt_irrefl 0), fun i hi => absurd hi (Nat.not_lt_zero i), fun _ => rfl⟩
 ·simp only [List.cons.injEq, and_true] at hcs
  have hlm : len ≤ m := by rw [hmm]; split <;> omega
  obtain ⟨V, hV⟩ := choose_lt (α := Nat → Value) (n := len) (p := fun i f => (∀ j, j < c → w.cell? ((a.add (i * c)).add j) = some (f j)) ∧ DataW.trod enc P w base spare held n e ((List.range c).map f) = some (D i, Pl i)) (fun i hi => by
   obtain ⟨cs', h1, h2⟩ := hx i (by omega)
   rw [hc] at h1
   obtain ⟨_, hlen, hcell⟩ := World.cells?_some h1
   refine ⟨fun j => cs'.getD j undef, fun j hj => ?_, ?_⟩
   ·show _ = some (cs'.getD j undef)
    rw [hcell j hj, List.getD_eq_getElem?_getD, List.getElem?_eq_getElem (by omega)]; rfl
   ·have : (List.range c).map (fun j => cs'.getD j undef) = cs' := by
     refine List.ext_getElem (by simp [hlen]) fun j h3 h4 => ?_
     simp [List.getD_eq_getElem?_getD, List.getElem?_eq_getElem h4]
    rw [this]; exact h2)
  refine ⟨some a, len, cap, V, hcs, hl, hm, fun hlt => ?_, fun i hi => ⟨n, _, (hV i hi).2⟩, fun h => (by cases h)⟩
  have := (hV 0 hlt).1 0 h0
  rw [add_add, Nat.zero_mul, Nat.add_zero] at this
  obtain ⟨b, off, rfl⟩ := cell_plain this
  refine ⟨b, off, rfl, fun i hi j hj => ?_⟩
  have := (hV i hi).1 j hj
  rw [add_add, Lib.add_plain, ← Nat.add_assoc] at this
  exact this
end
section
variable {H : Type} {enc : TypeId × Value → H} {w : World} {base : Nat} {spare : Nat → Bool} {held : Bool}
theorem u64_nat' {n : Int} (h : (Lit.int .u64 n).wf = true) : ∃ a : Nat, n = (a : Int) ∧ a < 18446744073709551616 := by
 have : 0 ≤ n ∧ n ≤ 18446744073709551615 := by simpa [Lit.wf, IntKind.min, IntKind.max, IntKind.signed, IntKind.bits] using h
 exact ⟨n.toNat, by omega, by omega⟩
theorem open_row {fuel : Nat} {v : Value} {x : DataW H × List MemPlace} (h : DataW.trod enc Tryz.prog w base spare held fuel 87 [v] = some x) : ∃ l : List Int, RowAtI w v l ∧ l.length ≤ maxLen := by
 obtain ⟨a, len, cap, V, rfl, hl, hm, hat, hel, _⟩ := open_block Tryz.underlying87 (by kernel_rfl : Tryz.prog.cellsOf 3 = 1) (by omega) h
 obtain ⟨f, hf⟩ := choose_lt (α := Int) (n := len) (p := fun i z => V i 0 = .int .i64 z) (fun i hi => by
  obtain ⟨n, y, hy⟩ := hel i hi
  obtain ⟨z, hz, _, _⟩ := DataW.trod_int Tryz.underlying3 hy
  simp only [show (List.range 1).map (V i) = [V i 0] from rfl, List.cons.injEq, and_true] at hz
  exact ⟨z, hz⟩)
 have hlen : ((List.range len).map f).length = len := by simp
 refine ⟨(List.range len).map f, ⟨a, cap, by rw [hlen], fun j hj => ?_⟩, by rw [hlen]; omega⟩
 rw [hlen] at hj
 obtain ⟨b, off, rfl, hc⟩ := hat (by omega)
 have := hc j hj 0 (by omega)
 rw [Nat.mul_one, Nat.add_zero, hf j hj] at this
 exact ⟨b, off, rfl, block_lt this, by rw [this]; simp⟩
set_option maxRecDepth 100000 in
set_option maxHeartbeats 1000000 in
theorem open_dfa {r : Reach} {b0 : Nat} {v : Value} {d : DataW H} {ps : List MemPlace} (hval : Value.okWide Tryz.prog w r b0 26 v) (h : DataW.Trod enc Tryz.prog w base spare held 26 v d ps) :
  ∃ D nv tv, v = .agg (dval D nv tv) ∧ DAt w nv tv D := by
 obtain ⟨cs, rfl, hsz⟩ := okWide_struct Tryz.underlying26 hval
 obtain ⟨l⟩ := cs
 have hC : Tryz.prog.cellsOf 26 = 258 := by kernel_rfl
 have hl : l.length = 258 := hsz.trans hC
 obtain ⟨fuel, hf⟩ := h
 obtain ⟨xs, n, _, hx, _, hlen, hg⟩ := DataW.trod_struct Tryz.underlying26 hf
 match xs, hlen with
 | [y0, y1, y2], _ =>
  have k0 : DataW.trod enc Tryz.prog w base spare held n 22 ((l.drop 0).take (Tryz.prog.cellsOf 22)) = some y0 := hg 0 _ rfl
  have k1 : DataW.trod enc Tryz.prog w base spare held n 23 ((l.drop 256).take (Tryz.prog.cellsOf 23)) = some y1 := hg 1 _ rfl
  have k2 : DataW.trod enc Tryz.prog w base spare held n 24 ((l.drop 257).take (Tryz.prog.cellsOf 24)) = some y2 := hg 2 _ rfl
  rw [show Tryz.prog.cellsOf 22 = 256 from by kernel_rfl] at k0
  rw [show Tryz.prog.cellsOf 23 = 1 from by kernel_rfl] at k1
  rw [show Tryz.prog.cellsOf 24 = 1 from by kernel_rfl] at k2
  have e1 : (l.drop 256).take 1 = [l[256]] := by rw [List.drop_eq_getElem_cons (by omega)]; rfl
  have e2 : (l.drop 257).take 1 = [l[257]] := by rw [List.drop_eq_getElem_cons (by omega)]; rfl
  rw [e1] at k1
  rw [e2] at k2
  obtain ⟨cx, cn, _, _, _, clen, cg⟩ := DataW.trod_array Tryz.underlying22 k0
  obtain ⟨cf, hcf⟩ := choose_lt (α := Int) (n := 256) (p := fun i z => l[i]? = some (.int .i64 z)) (fun i hi => by
   have g := cg i hi
   rw [show Tryz.prog.cellsOf 3 = 1 from by kernel_rfl, Nat.mul_one, List.drop_zero, List.getElem?_eq_getElem (by omega)] at g
   have e : ((l.take 256).drop i).take 1 = [l[i]'(by omega)] := by
    rw [List.drop_eq_getElem_cons (by simp; omega), List.getElem_take]; rfl
   rw [e] at g
   obtain ⟨z, hz, _, _⟩ := DataW.trod_int Tryz.underlying3 g
   simp only [List.cons.injEq, and_true] at hz
   exact ⟨z, by rw [List.getElem?_eq_getElem (by omega), hz]⟩)
  obtain ⟨na, nl, nc, NV, hnv, hnl, hnm, hna, hne, _⟩ := open_block Tryz.underlying23 (by kernel_rfl : Tryz.prog.cellsOf 87 = 1) (by omega) k1
  obtain ⟨ta, tl, tc, TV, htv, htl, htm, hta, hte, _⟩ := open_block Tryz.underlying24 (by kernel_rfl : Tryz.prog.cellsOf 54 = 1) (by omega) k2
  obtain ⟨nf, hnf⟩ := choose_lt (α := List Int) (n := nl) (p := fun i q => RowAtI w (NV i 0) q ∧ q.length ≤ maxLen) (fun i hi => by
   obtain ⟨n, y, hy⟩ := hne i hi
   exact open_row hy)
  obtain ⟨tf, htf⟩ := choose_lt (α := Nat) (n := tl) (p := fun i z => TV i 0 = .int .u64 (z : Int) ∧ z < 18446744073709551616) (fun i hi => by
   obtain ⟨n, y, hy⟩ := hte i hi
   obtain ⟨z, hz, _, hw⟩ := DataW.trod_int Tryz.underlying54 hy
   simp only [show (List.range 1).map (TV i) = [TV i 0] from rfl, List.cons.injEq, and_true] at hz
   obtain ⟨a, rfl, ha⟩ := u64_nat' hw
   exact ⟨a, hz, ha⟩)
  refine ⟨⟨(List.range 256).map cf, (List.range nl).map nf, (List.range tl).map tf⟩, l[256], l[257], ?_, ?_⟩
  ·congr 1
   unfold dval ivs
   have : l = (((List.range 256).map cf).map (Value.int .i64)) ++ [l[256], l[257]] := by
    refine List.ext_getElem? fun i => ?_
    by_cases hi : i < 256
    ·rw [List.getElem?_append_left (by simp; exact hi), hcf i hi]
     simp [hi]
    ·rw [List.getElem?_append_right (by simp; omega)]
     simp only [List.length_map, List.length_range]
     by_cases h6 : i = 256
     ·subst h6; rw [List.getElem?_eq_getElem (by omega)]; rfl
     ·by_cases h7 : i = 257
      ·subst h7; rw [List.getElem?_eq_getElem (by omega)]; rfl
      ·rw [List.getElem?_eq_none (by omega), List.getElem?_eq_none (by simp; omega)]
   apply Array.ext'
   simp only [Array.toList_append]
   exact this
  ·refine ⟨by simp, ⟨na, nc, by rw [hnv]; simp, fun i hi => ?_⟩, ⟨ta, tc, by rw [htv]; simp, fun i hi => ?_⟩, ⟨by simp; omega, by simp; omega⟩, fun q hq => ?_⟩
   ·have hi' : i < nl := by simpa using hi
    obtain ⟨b, off, rfl, hc⟩ := hna (by omega)
    have := hc i hi' 0 (by omega)
    rw [Nat.mul_one, Nat.add_zero] at this
    refine ⟨b, off, NV i 0, rfl, block_lt this, this, ?_⟩
    have e : ((List.range nl).map nf)[i]'(by simpa using hi') = nf i := by simp
    show RowAtI w (NV i 0) (((List.range nl).map nf)[i]'(by simpa using hi'))
    rw [e]
    exact (hnf i hi').1
   ·have hi' : i < tl := by simpa using hi
    obtain ⟨b, off, rfl, hc⟩ := hta (by omega)
    have := hc i hi' 0 (by omega)
    rw [Nat.mul_one, Nat.add_zero, (htf i hi').1] at this
    have e : ((List.range tl).map tf)[i]'(by simpa using hi') = tf i := by simp
    refine ⟨b, off, rfl, block_lt this, ?_, ?_⟩
    ·show _ = some (Value.int .u64 ((((List.range tl).map tf)[i]'(by simpa using hi') : Nat) : Int))
     rw [e]; exact this
    ·show ((List.range tl).map tf)[i]'(by simpa using hi') < _
     rw [e]; exact (htf i hi').2
   ·obtain ⟨i, hi, rfl⟩ := List.mem_map.1 hq
    exact (hnf i (by simpa using hi)).2
end
end Go.Proofs.YtochckefnjobhaaGreatDoor
namespace Go.Proofs.X6
open Go Go.RowKit Go.Lib
open X5 (Aut rowOf)
set_option linter.unusedVariables false
set_option linter.unusedSimpArgs false
def IsL (D M : Aut) : Prop := ∃ Bk st, Blk (rowOf D 0).length D Bk ∧ IsJ D Bk M st
theorem Ok.pos {D : Aut} {K : Nat} (h : Ok D K) : 0 < D.next.length := List.length_pos_iff.2 h.some_
theorem IsL.ok {D M : Aut} (hv : Vd D) (h : IsL D M) : Ok M (rowOf D 0).length := by
 obtain ⟨Bk, st, hb, hj⟩ := h
 exact hj.ok hv.ok hb
theorem IsL.row {D M : Aut} (hv : Vd D) (h : IsL D M) : (rowOf M 0).length = (rowOf D 0).length := (h.ok hv).rows 0 (h.ok hv).pos
theorem IsL.cls {D M : Aut} (h : IsL D M) : M.cls = D.cls := by
 obtain ⟨Bk, st, hb, hj⟩ := h
 exact hj.1
theorem IsL.few {D M : Aut} (hv : Vd D) (h : IsL D M) : M.next.length ≤ D.next.length := by
 obtain ⟨Bk, st, hb, hj⟩ := h
 exact hj.few hv.ok hb
def Few (D : Aut) : Prop := D.next.length ≤ 1000000 ∧ D.tags.length ≤ 1000000 ∧ (rowOf D 0).length ≤ 1000000 ∧ D.next.length * (rowOf D 0).length ≤ 1000000
theorem Lit.few {D : Aut} (h : Lit D) : Few D := by
 have h0 : (rowOf D 0).length ≤ 20 := by
  unfold rowOf
  rw [List.getD_eq_getElem?_getD]
  cases hx : D.next[0]? with
  | none => simp
  | some r => exact h.2.2 r (List.mem_of_getElem? hx)
 have h1 := h.1
 have h2 := h.2.1
 refine ⟨by omega, by omega, by omega, ?_⟩
 have : D.next.length * (rowOf D 0).length ≤ 30 * 20 := Nat.mul_le_mul (by omega) h0
 omega
theorem IsL.again {D M N : Aut} (hv : Vd D) (h : IsL D M) (g : IsL M N) : N = M := by
 obtain ⟨Bk, st, hb, hj⟩ := h
 obtain ⟨Ck, su, hc, hk⟩ := g
 have hr := IsL.row hv ⟨Bk, st, hb, hj⟩
 rw [hr] at hc
 exact hj.again hv.ok hb hc hk
theorem Vd.cl {D : Aut} (hv : Vd D) (hl : D.cls.length = 256) : ∀ b, b < 256 → 0 ≤ D.cls.getD b 0 ∧ D.cls.getD b 0 < ((rowOf D 0).length : Int) := fun b hb =>
 hv.cls _ (X6.getD_mem (by omega))
theorem IsL.run {D M : Aut} (hv : Vd D) (hl : D.cls.length = 256) (h : IsL D M) (s : List UInt8) : X5.runX M s = X5.runX D s := by
 obtain ⟨Bk, st, hb, hj⟩ := h
 exact hj.run hv.ok hb (hv.cl hl) s
theorem IsL.one {D E M N : Aut} (hv : Vd D) (hE : Ok E (rowOf D 0).length) (h0 : Eqv (rowOf D 0).length D 0 E 0) (hc : D.cls = E.cls) (h : IsL D M) (g : IsL E N) : M = N := by
 obtain ⟨Bk, st, hb, hj⟩ := h
 obtain ⟨Ck, su, hc', hk⟩ := g
 rw [hE.rows 0 hE.pos] at hc'
 exact IsJ.one hv.ok hE hb hc' h0 hc hj hk
end Go.Proofs.X6
namespace Go.Proofs.YtochckefnjobhaaGreatDoor
open Go Go.RowKit Go.Lib
open X5 (Aut)
set_option linter.unusedVariables false
set_option linter.unusedSimpArgs false
def Lies (D : Aut) (dd : Array Value) (w : World) : Prop := ∃ nv tv, dd = dval D nv tv ∧ DAt w nv tv D
theorem Lies.below {D : Aut} {dd : Array Value} {w w' : World} (h : Lies D dd w) (hb : Below w.heap.size w w') : Lies D dd w' := by
 obtain ⟨nv, tv, e, h⟩ := h
 exact ⟨nv, tv, e, h.below hb⟩
theorem Lies.sz {D : Aut} {dd : Array Value} {w : World} (h : Lies D dd w) : dd.size = 258 ∧ dd.all (·.oneCell') = true ∧ (∃ o c, dd[256]? = some (.slice o D.next.length c)) ∧ D.cls.length = 256 := by
 obtain ⟨nv, tv, rfl, h⟩ := h
 obtain ⟨o, c, hc⟩ := rows_shape h.rows
 refine ⟨dval_size h, dval_one' h, ⟨o, c, ?_⟩, h.len⟩
 rw [dcell_next h.len, hc]
theorem little_at {D : Aut} {dd : Array Value} {w : World} (h : Lies D dd w) : Calls Tryz.prog 12 #[.agg dd] w fun e w' => ∃ b : Bool, e = .returned (.bool b) ∧ (b = true ↔ X6.Lit D) ∧ Below w.heap.size w w' := by
 obtain ⟨nv, tv, rfl, h⟩ := h
 exact little_any h
section
variable {o : Oper} {a : Act} {W w : World} {C : World → Prop}
theorem quiet_load30 (p : Operand) (hop : o.op = .load 26 p) (g : Nat) (hp : a.eval p = .pointer (some ⟨g, 0, none⟩)) (cs : Array Value) (hC : Below W.heap.size W w) (hb : Bxx g cs W) (h1 : cs.size = 258) : o.quietAt Tryz.prog a C w (.agg cs) := by
 unfold Oper.quietAt
 rw [exec_load30 p hop g hp cs (hb.below hC) h1]
 exact ⟨rfl, rfl⟩
end
end Go.Proofs.YtochckefnjobhaaGreatDoor
namespace Go.Proofs.YtochckefnjobhaaGreatDoor
open Go Go.RowKit Go.Lib
open X5 (Aut)
set_option linter.unusedVariables false
set_option linter.unusedSimpArgs false
theorem boxed (w : World) (dd : Array Value) : ∃ w', w.alloc (.cells dd 26) = w' ∧ Bxx w.heap.size dd w' ∧ Below w.heap.size w w' :=
 ⟨_, rfl, new_block _ _, (Below.refl _ _).alloc (Nat.le_refl _) _⟩
end Go.Proofs.YtochckefnjobhaaGreatDoor
