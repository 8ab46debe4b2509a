/- Step. -/
import Derived.Test.YtjpbhbfklkipkaaDoorSr
namespace Go.Proofs.YtjpbhbfklkipkaaDoor
open Go Go.RowKit Go.Lib
open X14 (It thereX behX rightX sortX stepX closeV stepV)
open Go.Maps (Keyed)
set_option linter.unusedVariables false
set_option linter.unusedSimpArgs false
theorem wp_look1 {P : Program} {w : World} {o : Oper} {a : Act} {K : Act → World → Prop} {Q : Exit → Act → World → Prop} {b : Nat} (m x : Operand) (t : TypeId) (hop : o.op = Op.lookup t m x false) (hm : a.eval m = .map (some b)) (xv v : Value) (hx : a.eval x = xv)
    (hrun : (Instr.lookup t (.map (some b)) xv false).run P w = .ok v w) (hK : K (a.put o.dst v) w) : o.wp P a w K Q := by
  unfold Oper.wp
  simp [execOp, hop, hm, hx, hrun, Result.andThen]
  exact hK
/-- What stands by a symbol. -/
theorem StI.look {w0 w : World} {f : Int → List It} {b : Nat} {M : List Ent} (h : StI w0 w f b M) {s : Int} (h0 : -9223372036854775808 ≤ s) (h1 : s ≤ 9223372036854775807) (hl : (f s).length ≤ 1000000) :
    ∃ v, (∀ w', Below w.heap.size w w' → (Instr.lookup 75 (.map (some b)) (.int .i64 s) false).run Tryd.prog w' = .ok v w') ∧ ((v = .slice none 0 0 ∧ f s = [] ∧ s ∉ M.map (·.1)) ∨ ∃ p ∈ M, p.1 = s ∧ v = rowV p (f s) ∧ f s ≠ []) := by
  by_cases hin : s ∈ M.map (·.1)
  · obtain ⟨p, hpM, hpe⟩ := List.mem_map.1 hin
    subst hpe
    exact ⟨rowV p (f p.1), fun w' hC => (h.map.below hC).look_some1 keyed29 Tryd.underlying75 (key29 h0 h1) (h.mem hpM), .inr ⟨p, hpM, rfl, rfl, h.ne p hpM⟩⟩
  · exact ⟨.slice none 0 0, fun w' hC => (h.map.below hC).look_none1 keyed29 Tryd.underlying75 (key29 h0 h1) (zero28 _) (h.none_ hin), .inl ⟨rfl, h.all s hin, hin⟩⟩
set_option maxRecDepth 100000 in
set_option maxHeartbeats 8000000 in
theorem Step_any {G : GD} {gv v : Value} {w : World} {l : List It} (h : Gram w gv G) (hi : ItemsAt w v l) (hl : l.length ≤ 100000) (s : Int) (h0 : -9223372036854775808 ≤ s) (h1 : s ≤ 9223372036854775807) :
    Calls Tryd.prog 17 #[gv, v, .int .i64 s] w (ItemsP (stepV G l s) w) := by
  have HGr := hid h
  obtain ⟨vo, vc, rfl, hvn⟩ := hi.len
  obtain ⟨tv, ov, sv, pv, tf, rv, h⟩ := h
  obtain ⟨W1, B, hW1, hB, c0, c1, c2, c3, c4, hG, hb, hsz⟩ := gr_box h
  have hgv := h.eq
  subst hgv hB
  have e1 := hW1.symm
  have HC := hid (And.intro c0 (And.intro c1 (And.intro c2 (And.intro c3 c4))))
  have HB1 := hid hb
  have HI := hid hi
  have KV := hid (Valid_any hG)
  obtain ⟨vv, hvv⟩ : ∃ vv, validB G = vv := ⟨_, rfl⟩
  have HVV := hid hvv
  rw [hvv] at KV
  clear h hG hW1 hb hi hvv
  go_enter Tryd.func17, Tryd.ntmps17
  go_wp2_with fail
  refine KV.out.mono ?_
  rintro e w2 ⟨rfl, hb2⟩
  have HB2 := hid (HB1.out.trans (hb2.mono HB1.out.size))
  cases vv
  · clear hb2 KV e1
    go_wp2_with fail
    go_ret
    refine ⟨_, rfl, ?_, HB2.out⟩
    unfold X14.stepV
    rw [closeV_no HVV.out]
    exact items_nil _
  · obtain ⟨we, ewe⟩ : ∃ we, w2.drew = we := ⟨_, rfl⟩
    have hbe : Below w2.heap.size w2 we := by rw [← ewe]; exact (Below.refl _ _).drew
    have HBe := hid (HB2.out.trans (hbe.mono HB2.out.size))
    have HS := hid (show ∀ w', Below we.heap.size we w' → (w'.cell? ⟨w.heap.size, 0, none⟩ = some tv ∧ w'.cell? ⟨w.heap.size, 1, none⟩ = some ov ∧ w'.cell? ⟨w.heap.size, 2, none⟩ = some sv ∧ w'.cell? ⟨w.heap.size, 3, none⟩ = some pv ∧ w'.cell? ⟨w.heap.size, 4, none⟩ = some (.int .i64 G.start)) from fun w' hC => by
      have hh : Below W1.heap.size W1 w' := (hb2.trans (hbe.mono hb2.size)).trans (hC.mono (Nat.le_trans hb2.size hbe.size))
      exact ⟨cell_below hh HC.out.1, cell_below hh HC.out.2.1, cell_below hh HC.out.2.2.1, cell_below hh HC.out.2.2.2.1, cell_below hh HC.out.2.2.2.2⟩)
    have HH0 := HS.out we (Below.refl _ _)
    have KC := hid (closed_any (HGr.out.below HBe.out) HVV.out _ l (HI.out.below HBe.out) hl)
    clear hb2 KV hbe c0 c1 c2 c3 c4 e1
    go_wp2_with fail
    refine region_T 7 (fun w' => w'.cell? ⟨w.heap.size, 0, none⟩ = some tv ∧ w'.cell? ⟨w.heap.size, 1, none⟩ = some ov ∧ w'.cell? ⟨w.heap.size, 2, none⟩ = some sv ∧ w'.cell? ⟨w.heap.size, 3, none⟩ = some pv ∧ w'.cell? ⟨w.heap.size, 4, none⟩ = some (.int .i64 G.start)) (by kernel_rfl) (by rw [ewe]; exact HH0) (fun inv hHeld => ?_)
    rw [ewe]
    clear hHeld ewe
    refine anyT_take (i := 0) (oi := { dst := some 10, op := Go.Op.load 27 (Go.Operand.tmp 3), type := 27, pos := "states.go:112", after := #[], guard := none }) (v := ?_) rfl (by kernel_rfl) (by kernel_rfl) (by kernel_rfl) (by decide) (by decide) (by kernel_rfl) (by kernel_rfl) (fun _ _ _ h => h) (Or.inl ⟨by rfl, ?_⟩) HH0 inv (fun inv => ?_)
    rotate_left
    · intro w hSw
      try dsimp only at hSw
      go_simp
      try with_reducible rfl
    simp only [Act.put, List.setIfInBounds_toArray, List.set_cons_zero, List.set_cons_succ]
    refine anyT_take (i := 1) (oi := { dst := some 11, op := Go.Op.load 27 (Go.Operand.tmp 3), type := 27, pos := "states.go:112", after := #[], guard := none }) (v := ?_) rfl (by kernel_rfl) (by kernel_rfl) (by kernel_rfl) (by decide) (by decide) (by kernel_rfl) (by kernel_rfl) (fun _ _ _ h => h) (Or.inl ⟨by rfl, ?_⟩) HH0 inv (fun inv => ?_)
    rotate_left
    · intro w hSw
      try dsimp only at hSw
      go_simp
      try with_reducible rfl
    simp only [Act.put, List.setIfInBounds_toArray, List.set_cons_zero, List.set_cons_succ]
    refine anyT_take (i := 2) (oi := { dst := some 12, op := Go.Op.move (Go.Operand.tmp 1), type := 28, pos := "states.go:112", after := #[], guard := none }) (v := ?_) rfl (by kernel_rfl) (by kernel_rfl) (by kernel_rfl) (by decide) (by decide) (by kernel_rfl) (by kernel_rfl) (fun _ _ _ h => h) (Or.inl ⟨by rfl, ?_⟩) HH0 inv (fun inv => ?_)
    rotate_left
    · intro w hSw
      try dsimp only at hSw
      go_simp
      try with_reducible rfl
    simp only [Act.put, List.setIfInBounds_toArray, List.set_cons_zero, List.set_cons_succ]
    refine anyT_take (i := 5) (oi := { dst := some 15, op := Go.Op.move (Go.Operand.tmp 2), type := 29, pos := "states.go:112", after := #[], guard := none }) (v := ?_) rfl (by kernel_rfl) (by kernel_rfl) (by kernel_rfl) (by decide) (by decide) (by kernel_rfl) (by kernel_rfl) (fun _ _ _ h => h) (Or.inl ⟨by rfl, ?_⟩) HH0 inv (fun inv => ?_)
    rotate_left
    · intro w hSw
      try dsimp only at hSw
      go_simp
      try with_reducible rfl
    simp only [Act.put, List.setIfInBounds_toArray, List.set_cons_zero, List.set_cons_succ]
    refine anyT_next (i := 3) (o := { dst := some 13, op := Go.Op.call { callee := Go.Callee.value (Go.Operand.func 29), args := #[Go.Operand.tmp 11, Go.Operand.tmp 12], argTypes := #[27, 28] }, type := 28, pos := "states.go:112", after := #[{ on := 1, ground := Go.Ground.data }, { on := 2, ground := Go.Ground.data }], guard := none }) (by kernel_rfl) rfl (by decide) inv (fun inv K' hK => ?_)
    go_simp
    refine KC.out.mono ?_
    rintro e w3 ⟨g, c, L, k1, rfl, k2, k3, k4, k5⟩
    have HE := hid (show closeV G l = L from by rw [closeV_eq HVV.out]; exact (X14.closeX_eq k1).symm)
    have hLl : L.length ≤ 1573 := by rw [← HE.out]; exact X14.closeV_len G l
    have HB3 := hid (HBe.out.trans (k5.mono HBe.out.size))
    have HS3 := hid (show ∀ w', Below w3.heap.size w3 w' → Below we.heap.size we w' from fun w' hC => k5.trans (hC.mono k5.size))
    have KS := hid (steps_any (HGr.out.below HB3.out) HVV.out (rowH_items (c := c) k2 (by omega)) (fun x hx => ((k1.2 x).1 hx).there) (by omega))
    have HH1 := HS.out w3 k5
    refine hK.out _ _ HH1 ?_
    clear hK K' HH0 k1 k2 k3 k4 k5 KC
    try simp only [Act.put, List.setIfInBounds_toArray, List.set_cons_zero, List.set_cons_succ]
    refine anyT_next (i := 4) (o := { dst := some 14, op := Go.Op.call { callee := Go.Callee.value (Go.Operand.func 32), args := #[Go.Operand.tmp 10, Go.Operand.tmp 13], argTypes := #[27, 28] }, type := 75, pos := "states.go:112", after := #[{ on := 0, ground := Go.Ground.data }, { on := 3, ground := Go.Ground.data }, { on := 3, ground := Go.Ground.chain }], guard := none }) (by kernel_rfl) rfl (by decide) inv (fun inv K' hK => ?_)
    go_simp
    refine KS.out.mono ?_
    rintro e w4 ⟨b, M, rfl, hst⟩
    have HST := hid hst
    have HB4 := hid (HB3.out.trans (hst.bel.mono HB3.out.size))
    have HH2 := HS.out w4 (HS3.out w4 hst.bel)
    obtain ⟨sv', hrun, hcase⟩ := hst.look h0 h1 (Nat.le_trans (by unfold X14.stepX; rw [List.length_map]; exact List.length_filter_le _ _) (Nat.le_trans hLl (by decide)))
    have HRUN := hid hrun
    have HCASE := hid hcase
    refine hK.out _ _ HH2 ?_
    clear hK K' HH1 hst hrun hcase KS
    try simp only [Act.put, List.setIfInBounds_toArray, List.set_cons_zero, List.set_cons_succ]
    refine anyT_next (i := 6) (o := { dst := some 16, op := Go.Op.lookup 75 (Go.Operand.tmp 14) (Go.Operand.tmp 15) false, type := 28, pos := "states.go:112", after := #[{ on := 4, ground := Go.Ground.data }, { on := 5, ground := Go.Ground.data }], guard := none }) (by kernel_rfl) rfl (by decide) inv (fun inv K' hK => ?_)
    simp only [Region.wanted]
    rw [if_pos trivial]
    refine wp_look1 (.tmp 14) (.tmp 15) 75 rfl rfl (.int .i64 s) sv' rfl (HRUN.out w4 (Below.refl _ _)) ?_
    refine hK.out _ _ HH2 ?_
    clear hK K'
    try simp only [Act.put, List.setIfInBounds_toArray, List.set_cons_zero, List.set_cons_succ]
    refine anyT_one (i := 7) (o := { dst := some 6, op := Go.Op.assign (Go.Operand.tmp 16), type := 28, pos := "states.go:112", after := #[{ on := 6, ground := Go.Ground.data }, { on := 4, ground := Go.Ground.chain }, { on := 0, ground := Go.Ground.phase }, { on := 1, ground := Go.Ground.phase }, { on := 2, ground := Go.Ground.phase }, { on := 3, ground := Go.Ground.phase }, { on := 4, ground := Go.Ground.phase }, { on := 5, ground := Go.Ground.phase }, { on := 6, ground := Go.Ground.phase }], guard := none }) (by kernel_rfl) rfl (fun K' hK => ?_)
    go_simp
    refine hK.out _ _ (fun h => absurd h (by decide)) ?_
    clear hK K'
    try simp only [Act.put, List.setIfInBounds_toArray, List.set_cons_zero, List.set_cons_succ]
    refine anyT_done (by kernel_rfl) ?_ _
    go_wp2_with fail
    go_ret
    refine ⟨_, rfl, ?_, HB4.out⟩
    unfold X14.stepV
    rw [HE.out]
    rcases HCASE.out with ⟨rfl, h2, _⟩ | ⟨p, hp, rfl, rfl, _⟩
    · rw [h2]; exact items_nil _
    · exact own_items (HST.out.own p hp) (Nat.le_trans (by unfold X14.stepX; rw [List.length_map]; exact List.length_filter_le _ _) (Nat.le_trans hLl (by decide)))
end Go.Proofs.YtjpbhbfklkipkaaDoor
