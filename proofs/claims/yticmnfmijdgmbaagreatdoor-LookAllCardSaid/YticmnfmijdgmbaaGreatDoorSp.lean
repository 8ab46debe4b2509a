/- Behind a symbol, as the document has it; the program's rows as the document's. -/
import Derived.Test.YticmnfmijdgmbaaGreatDoorGb
import Derived.Test.YticmnfmijdgmbaaGreatDoorRh
import Derived.Test.YticmnfmijdgmbaaGreatDoorSk
import Derived.Test.YticmnfmijdgmbaaGreatDoorRd
namespace Go.Proofs.X14
set_option linter.unusedVariables false
theorem stepX_take {G : Go.Proofs.YticmnfmijdgmbaaGreatDoor.GD} {c : List It} {i : Nat} {x : It} (hx : c[i]? = some x) (s : Int) : stepX G (c.take (i + 1)) s = stepX G (c.take i) s ++ if behX G x = some s then [(x.1, x.2 + 1)] else [] := by
 unfold stepX
 rw [List.take_add_one, hx, List.filter_append, List.map_append]
 congr 1
 by_cases h : behX G x = some s
 ·simp [h]
 ·simp [h]
end Go.Proofs.X14
namespace Go.Proofs.YticmnfmijdgmbaaGreatDoor
open Go Go.RowKit Go.Lib
open X14 (It Less Rise thereX behX sortX rightX closeV stepX stepV isV_iff)
set_option linter.unusedVariables false
set_option linter.unusedSimpArgs false
theorem wrap_small {a : Int} (h0 : -9223372036854775808 ≤ a) (h1 : a ≤ 9223372036854775807) : IntKind.i64.wrap a = a := by
 unfold IntKind.wrap
 simp [IntKind.signed, IntKind.bits]
 omega
set_option maxRecDepth 100000 in
set_option maxHeartbeats 8000000 in
theorem LRow_any {w : World} {v : Value} {l : List It} (h : ItemsAt w v l) (hl : l.length ≤ 100000) : Calls Tryz.prog 52 #[v] w (RowP l w) := by
 obtain ⟨vo, vc, rfl, hvn⟩ := h.len
 obtain ⟨n, hln⟩ : ∃ n, l.length = n := ⟨_, rfl⟩
 have HLN := hid hln
 have HL := hid h
 rw [hln] at HL hvn hl ⊢
 clear h hln
 go_enter Tryz.func52, Tryz.ntmps52
 go_wp2_with fail
 go_loopw [3, 4] (fun t3 t4 wr => ∃ (k : Nat), k ≤ n ∧ t4 = .int .i64 (k : Int) ∧ Hid (wr.ownsRow w.heap.size 110 2 t3 (l.take k).length (icells (l.take k))) ∧ Hid (Below w.heap.size w wr)) (fun _ t4 _ => n - (RowKit.intOf t4).toNat)
 case atStart => exact ⟨0, Nat.zero_le _, rfl, hid (World.ownsRow_nil _ _ _ _), hid (Below.refl _ _)⟩
 case round =>
  obtain ⟨k, hk, rfl, HO, HB⟩ := hrel
  have hszr := HB.out.size
  by_cases hlt : k < n
  ·have t1 : (k : Int) < (n : Int) := by omega
   have t2 : (0 : Int) ≤ (k : Int) := by omega
   obtain ⟨x, hx⟩ : ∃ x, l[k]? = some x := ⟨_, List.getElem?_eq_getElem (by rw [HLN.out]; exact hlt)⟩
   obtain ⟨lb, lo, rfl, q0, q1⟩ := HL.out.at_ hx
   have HTK := hid (show l.take (k + 1) = l.take k ++ [x] from by rw [List.take_add_one, hx]; rfl)
   obtain ⟨K, hK⟩ : ∃ K, l.take k = K := ⟨_, rfl⟩
   have hKl : K.length ≤ 100000 := by rw [← hK, List.length_take]; omega
   rw [hK] at HO HTK
   obtain ⟨oo, oc, rfl⟩ := own_shape HO.out
   obtain ⟨we, ewe⟩ : ∃ we, wr.drew = we := ⟨_, rfl⟩
   have hbe : Below wr.heap.size wr we := by rw [← ewe]; exact (Below.refl _ _).drew
   have HBe := hid (HB.out.trans (hbe.mono hszr))
   have HOe := hid (own_below HO.out hbe)
   have HS2 := hid (show ∀ w', Below w.heap.size w w' → w'.cell? ⟨lb, lo + k * 2, none⟩ = some (.int .i64 x.1) ∧ w'.cell? ⟨lb, lo + k * 2 + 1, none⟩ = some (.int .i64 x.2) from fun w' hC => ⟨cell_below hC q0, cell_below hC q1⟩)
   have HS := hid (show ∀ w', Below we.heap.size we w' → w'.cell? ⟨lb, lo + k * 2, none⟩ = some (.int .i64 x.1) ∧ w'.cell? ⟨lb, lo + k * 2 + 1, none⟩ = some (.int .i64 x.2) from fun w' hC => HS2.out w' (HBe.out.trans (hC.mono HBe.out.size)))
   have HH0 := HS2.out we HBe.out
   clear hx q0 q1 hbe hK
   obtain ⟨x1, x2⟩ := x
   dsimp only at *
   go_wp2_with fail
   refine region_T 14 (fun w' => w'.cell? ⟨lb, lo + k * 2, none⟩ = some (.int .i64 x1) ∧ w'.cell? ⟨lb, lo + k * 2 + 1, none⟩ = some (.int .i64 x2)) (by kernel_rfl) (by rw [ewe]; exact HH0) (fun inv hHeld => ?_)
   rw [ewe]
   clear hHeld ewe
   iterate 12
    refine anyT_auto (v := ?_) rfl (by kernel_rfl) (fun _ _ _ h => h) (Or.inl ⟨by rfl, ?_⟩) HH0 inv (fun inv => ?_)
    rotate_left
    ·intro w hSw
     try dsimp only at hSw
     go_simp
     try with_reducible rfl
    simp only [Act.put, sjA, sj0, sjS]
   refine anyT_next (i := 12) (o := { dst := some 23, op := Go.Op.buildSlice 50 1 #[(0, Go.Operand.tmp 22)], type := 50, pos := "law.go:28", after := #[{ on := 11, ground := Go.Ground.data }], guard := none }) (by kernel_rfl) rfl (by decide) inv (fun inv K' hK => ?_)
   go_simp
   obtain ⟨wq, eq⟩ : ∃ wq, we.alloc (.cells #[.int .i64 x1, .int .i64 x2] 110) = wq := ⟨_, rfl⟩
   have hbq : Below we.heap.size we wq := by rw [← eq]; exact (Below.refl _ _).alloc (Nat.le_refl _) _
   have HNQ := hid (show wq.heap[we.heap.size]? = some (.cells #[.int .i64 x1, .int .i64 x2] 110 (0, 0)) from by rw [← eq]; exact new_block _ _)
   have HOq := hid (own_below HOe.out hbq)
   have HBq := hid (HBe.out.trans (hbq.mono HBe.out.size))
   have hdq := HBq.out.size
   have HH1 := HS.out wq hbq
   try rw [eq]
   refine hK.out _ _ HH1 ?_
   clear hK K' hbq HH0
   try simp only [Act.put, sjA, sj0, sjS]
   refine anyT_next (i := 13) (o := { dst := some 24, op := Go.Op.call { callee := Go.Callee.builtin Go.Builtin.append, args := #[Go.Operand.tmp 11, Go.Operand.tmp 23], argTypes := #[50, 50] }, type := 50, pos := "law.go:28", after := #[{ on := 0, ground := Go.Ground.data }, { on := 12, ground := Go.Ground.data }], guard := none }) (by kernel_rfl) rfl (by decide) inv (fun inv K' hK => ?_)
   simp only [Region.wanted]
   rw [if_pos trivial]
   refine wp_push39 (.tmp 11) (.tmp 23) rfl w.heap.size (.slice oo K.length oc) K.length (icells K) rfl HOq.out we.heap.size rfl x1 x2 HNQ.out (by omega) hdq ?_
   intro v7 w7 hown7 hg7 hat7
   have HO8 := hid (own_push39 (x := (x1, x2)) hown7)
   have HB8 := hid (HBq.out.grown hg7 hdq (fun q hq => (owns_lt HOq.out q hq).1))
   have HH2 := HS2.out w7 HB8.out
   refine hK.out _ _ HH2 ?_
   clear hK K' HH1 hown7 hg7 hat7
   try simp only [Act.put, sjA, sj0, sjS]
   refine anyT_one (i := 14) (o := { dst := some 3, op := Go.Op.assign (Go.Operand.tmp 24), type := 50, pos := "law.go:28", after := #[{ on := 13, ground := Go.Ground.data }, { on := 13, ground := Go.Ground.chain }, { on := 0, ground := Go.Ground.phase }, { on := 1, ground := Go.Ground.phase }, { on := 2, ground := Go.Ground.phase }, { on := 3, ground := Go.Ground.phase }, { on := 4, ground := Go.Ground.phase }, { on := 5, ground := Go.Ground.phase }, { on := 6, ground := Go.Ground.phase }, { on := 7, ground := Go.Ground.phase }, { on := 8, ground := Go.Ground.phase }, { on := 9, ground := Go.Ground.phase }, { on := 10, ground := Go.Ground.phase }, { on := 11, ground := Go.Ground.phase }, { on := 12, ground := Go.Ground.phase }, { on := 13, ground := Go.Ground.phase }], guard := none }) (by kernel_rfl) rfl (fun K' hK => ?_)
   go_simp
   refine hK.out _ _ (fun h => absurd h (by decide)) ?_
   clear hK K'
   try simp only [Act.put, sjA, sj0, sjS]
   refine anyT_done (by kernel_rfl) ?_ _
   have HO9 := hid (show w7.ownsRow w.heap.size 110 2 v7 (l.take (k + 1)).length (icells (l.take (k + 1))) from by rw [HTK.out]; exact HO8.out)
   go_wp2_with fail
   refine ⟨⟨k + 1, by omega, rfl, HO9, HB8⟩, ?_⟩
   show n - ((k : Int) + 1).toNat < n - ((k : Int)).toNat
   omega
  ·have t1 : ¬ (k : Int) < (n : Int) := by omega
   have hkn : k = n := by omega
   have HO2 := hid (show wr.ownsRow w.heap.size 110 2 u3 l.length (icells l) from by
    have := HO.out
    rw [hkn, ← HLN.out, List.take_length] at this
    exact this)
   clear hkn
   go_wp2_with fail
   go_ret
   exact ⟨_, rfl, HO2.out, HB.out⟩
set_option maxRecDepth 100000 in
set_option maxHeartbeats 16000000 in
theorem RStep_any {G : GD} {gv v : Value} {w : World} {l : List It} (h : Gram w gv G) (hi : ItemsAt w v l) (hl : l.length ≤ 100000) (s : Int) :
  Calls Tryz.prog 89 #[gv, v, .int .i64 s] w (RowP (stepV G l s) w) := by
 have HGr := hid h
 obtain ⟨vo, vc, rfl, hvn⟩ := hi.len
 obtain ⟨tv, ov, sv, pv, tf, rv, h⟩ := h
 obtain ⟨W1, B, hW1, hB, c0, c1, c2, c3, c4, hG, hb, hsz⟩ := gr_box h
 have hgv := h.eq
 subst hgv hB
 have e1 := hW1.symm
 have HC := hid (And.intro c0 (And.intro c1 (And.intro c2 (And.intro c3 c4))))
 have HB1 := hid hb
 have HWG := hid (show ∀ w', Below W1.heap.size W1 w' → Gram w' (.agg #[tv, ov, sv, pv, .int .i64 G.start]) G from fun w' hC => HGr.out.below (hb.trans (hC.mono hsz)))
 have KC := hid (RClose_any (HWG.out W1 (Below.refl _ _)) (hi.below hb) hl)
 clear h hG hW1 hb hi
 go_enter Tryz.func89, Tryz.ntmps89
 go_wp2_with fail
 refine KC.out.mono ?_
 rintro e w2 ⟨cv, rfl, hcv, hb2⟩
 have hcl := X14.closeV_len G l
 have HIN := hid (show ∀ x ∈ closeV G l, validB G = true ∧ thereX G x = true from fun x hx => ⟨(X14.mem_closeV.1 hx).1, (X14.mem_closeV.1 hx).2.there⟩)
 have HST := hid (show stepV G l s = stepX G (closeV G l) s from rfl)
 have HRS := hid (X14.stepX_rise (G := G) (X14.closeV_rise G l) s)
 generalize closeV G l = C at *
 generalize stepV G l s = ST at *
 obtain ⟨n, hln⟩ : ∃ n, C.length = n := ⟨_, rfl⟩
 have HLN := hid hln
 have HL := hid (own_items hcv (by omega))
 obtain ⟨co, cc, rfl⟩ := own_shape hcv
 have HB2 := hid hb2
 have HF2 := hid (show ∀ w', Below w2.heap.size w2 w' → Below W1.heap.size W1 w' from fun w' hC => hb2.trans (hC.mono hb2.size))
 rw [hln] at HL hcl ⊢
 clear hcv hb2 hln KC c0 c1 c2 c3 c4 e1
 go_wp2_with fail
 go_loopw [7, 9, 10, 11] (fun t7 t9 t10 t11 wr => ∃ (k : Nat), k ≤ n ∧ t9 = .int .i64 (k : Int) ∧ Hid (wr.ownsRow w2.heap.size 110 2 t7 (stepX G (C.take k) s).length (icells (stepX G (C.take k) s))) ∧ Hid (Below w2.heap.size w2 wr)) (fun _ t9 _ _ _ => n - (RowKit.intOf t9).toNat)
 case atStart => exact ⟨0, Nat.zero_le _, rfl, hid (World.ownsRow_nil _ _ _ _), hid (Below.refl _ _)⟩
 case round =>
  obtain ⟨k, hk, rfl, HO, HB⟩ := hrel
  have hszr := HB.out.size
  by_cases hlt : k < n
  ·have t1 : (k : Int) < (n : Int) := by omega
   have t2 : (0 : Int) ≤ (k : Int) := by omega
   obtain ⟨x, hx⟩ : ∃ x, C[k]? = some x := ⟨_, List.getElem?_eq_getElem (by rw [HLN.out]; exact hlt)⟩
   obtain ⟨hval, hth⟩ := HIN.out x (List.mem_of_getElem? hx)
   have hx2 : 0 ≤ x.2 ∧ x.2 ≤ 12 := by
    have h1 := X14.there_iff.1 hth
    have h2 := X14.right_le hval h1.1 h1.2.1
    omega
   obtain ⟨lb, lo, rfl, q0, q1⟩ := HL.out.at_ hx
   have HTK := hid (X14.stepX_take (G := G) hx s)
   obtain ⟨K, hK⟩ : ∃ K, stepX G (C.take k) s = K := ⟨_, rfl⟩
   have hKl : K.length ≤ 100000 := by
    rw [← hK]
    unfold X14.stepX
    rw [List.length_map]
    refine Nat.le_trans (List.length_filter_le _ _) ?_
    rw [List.length_take]; omega
   rw [hK] at HO HTK
   obtain ⟨oo, oc, rfl⟩ := own_shape HO.out
   have HQ0 : Hid (∀ w', Below wr.heap.size wr w' → w'.cell? ⟨lb, lo + k * 2, none⟩ = some (.int .i64 x.1)) := hid fun w' hC => cell_below hC (cell_below HB.out q0)
   have HQ1 : Hid (∀ w', Below wr.heap.size wr w' → w'.cell? ⟨lb, lo + k * 2 + 1, none⟩ = some (.int .i64 x.2)) := hid fun w' hC => cell_below hC (cell_below HB.out q1)
   have HQ2 : Hid (∀ w', Below wr.heap.size wr w' → w'.cell? ⟨w.heap.size, 0, none⟩ = some (tv)) := hid fun w' hC => cell_below hC (cell_below (HF2.out wr HB.out) HC.out.1)
   have HQ3 : Hid (∀ w', Below wr.heap.size wr w' → w'.cell? ⟨w.heap.size, 1, none⟩ = some (ov)) := hid fun w' hC => cell_below hC (cell_below (HF2.out wr HB.out) HC.out.2.1)
   have HQ4 : Hid (∀ w', Below wr.heap.size wr w' → w'.cell? ⟨w.heap.size, 2, none⟩ = some (sv)) := hid fun w' hC => cell_below hC (cell_below (HF2.out wr HB.out) HC.out.2.2.1)
   have HQ5 : Hid (∀ w', Below wr.heap.size wr w' → w'.cell? ⟨w.heap.size, 3, none⟩ = some (pv)) := hid fun w' hC => cell_below hC (cell_below (HF2.out wr HB.out) HC.out.2.2.2.1)
   have HQ6 : Hid (∀ w', Below wr.heap.size wr w' → w'.cell? ⟨w.heap.size, 4, none⟩ = some (.int .i64 G.start)) := hid fun w' hC => cell_below hC (cell_below (HF2.out wr HB.out) HC.out.2.2.2.2)
   obtain ⟨sy, hsy⟩ : ∃ sy, (behV G x).getD 0 = sy := ⟨_, rfl⟩
   obtain ⟨ok, hok⟩ : ∃ ok, (behV G x).isSome = ok := ⟨_, rfl⟩
   have hKB : ∀ w', Below wr.heap.size wr w' → Calls Tryz.prog 56 #[.agg #[tv, ov, sv, pv, .int .i64 G.start], .agg #[.int .i64 x.1, .int .i64 x.2]] w' fun e w'' => e = .returned (.tuple #[.int .i64 sy, .bool ok]) ∧ Below w'.heap.size w' w'' := fun w' hC => by
    have h2 := RBehind_any (HWG.out w' (HF2.out w' (HB.out.trans (hC.mono hszr)))) x
    unfold BehVP at h2
    rw [hsy, hok] at h2
    exact h2
   have KB := hid hKB
   have HBX := hid (show behX G x = if ok = true then some sy else none from by
    have e : behV G x = behX G x := by unfold behV; rw [if_pos hval]
    rw [← hsy, ← hok, ← e]
    cases behV G x <;> rfl)
   have HS2 := hid (show ∀ w', Below w2.heap.size w2 w' → w'.cell? ⟨lb, lo + k * 2, none⟩ = some (.int .i64 x.1) ∧ w'.cell? ⟨lb, lo + k * 2 + 1, none⟩ = some (.int .i64 x.2) from fun w' hC => ⟨cell_below hC q0, cell_below hC q1⟩)
   have hwx : IntKind.i64.wrap (x.2 + 1) = x.2 + 1 := wrap_small (by omega) (by omega)
   clear hKB hx hval hth hsy hok q0 q1 hK
   go_wp2_with fail
   refine wp_region_below (by kernel_rfl) (by kernel_rfl) ?_
   iterate 11
    with_reducible refine BigFrame.wpQuiet_want (by kernel_rfl) (fun K hK => ?_)
    apply Exists.intro
    refine ⟨fun w' hC => ?_, hK _ ?_⟩
    ·have f0' := HQ0.out w' hC
     have f1' := HQ1.out w' hC
     have f2' := HQ2.out w' hC
     have f3' := HQ3.out w' hC
     have f4' := HQ4.out w' hC
     have f5' := HQ5.out w' hC
     have f6' := HQ6.out w' hC
     unfold Oper.quietAt
     go_simp
     first | with_reducible rfl | with_reducible exact below_call hC (Nat.le_refl _) (KB.out w' hC)
    clear hK K
    try simp only [Act.put, sjA, sj0, sjS]
   refine wpQuiet_nil ?_
   intro w6 hb6
   have HO6 := hid (own_below HO.out hb6)
   have HB6 := hid (HB.out.trans (hb6.mono hszr))
   have hs6 := HB6.out.size
   clear hb6 HO HB HQ0 HQ1 HQ2 HQ3 HQ4 HQ5 HQ6 KB hszr
   by_cases hyes : ok = true ∧ sy = s
   case neg =>
    have HO7 := hid (show w6.ownsRow w2.heap.size 110 2 (.slice oo K.length oc) (stepX G (C.take (k + 1)) s).length (icells (stepX G (C.take (k + 1)) s)) from by
     rw [HTK.out, if_neg, List.append_nil]
     ·exact HO6.out
     ·rw [HBX.out]
      intro e
      split at e
      ·rename_i k0
       injection e with e
       exact hyes ⟨k0, e⟩
      ·cases e)
    cases ok
    ·go_wp2_with fail
     refine ⟨⟨k + 1, by omega, rfl, HO7, HB6⟩, ?_⟩
     show n - ((k : Int) + 1).toNat < n - ((k : Int)).toNat
     omega
    ·have hss : (sy == s) = false := by rw [beq_eq_false_iff_ne]; exact fun e => hyes ⟨rfl, e⟩
     go_wp2_with fail
     refine ⟨⟨k + 1, by omega, rfl, HO7, HB6⟩, ?_⟩
     show n - ((k : Int) + 1).toNat < n - ((k : Int)).toNat
     omega
   case pos =>
    obtain ⟨rfl, rfl⟩ := hyes
    have HTK2 := hid (show stepX G (C.take (k + 1)) sy = K ++ [(x.1, x.2 + 1)] from by rw [HTK.out, if_pos (by rw [HBX.out, if_pos rfl])])
    clear HTK HBX
    obtain ⟨we, ewe⟩ : ∃ we, w6.drew = we := ⟨_, rfl⟩
    have hbe : Below w6.heap.size w6 we := by rw [← ewe]; exact (Below.refl _ _).drew
    have HBe := hid (HB6.out.trans (hbe.mono HB6.out.size))
    have HOe := hid (own_below HO6.out hbe)
    have HS := hid (show ∀ w', Below we.heap.size we w' → w'.cell? ⟨lb, lo + k * 2, none⟩ = some (.int .i64 x.1) ∧ w'.cell? ⟨lb, lo + k * 2 + 1, none⟩ = some (.int .i64 x.2) from fun w' hC => HS2.out w' (HBe.out.trans (hC.mono HBe.out.size)))
    have HH0 := HS2.out we HBe.out
    clear hbe
    obtain ⟨x1, x2⟩ := x
    dsimp only at *
    go_wp2_with fail
    refine region_T 15 (fun w' => w'.cell? ⟨lb, lo + k * 2, none⟩ = some (.int .i64 x1) ∧ w'.cell? ⟨lb, lo + k * 2 + 1, none⟩ = some (.int .i64 x2)) (by kernel_rfl) (by rw [ewe]; exact HH0) (fun inv hHeld => ?_)
    rw [ewe]
    clear hHeld ewe
    iterate 13
     refine anyT_auto (v := ?_) rfl (by kernel_rfl) (fun _ _ _ h => h) (Or.inl ⟨by rfl, ?_⟩) HH0 inv (fun inv => ?_)
     rotate_left
     ·intro w hSw
      try dsimp only at hSw
      go_simp
      try with_reducible rfl
     simp only [Act.put, sjA, sj0, sjS]
    refine anyT_next (i := 13) (o := { dst := some 49, op := Go.Op.buildSlice 50 1 #[(0, Go.Operand.tmp 48)], type := 50, pos := "ref.go:100", after := #[{ on := 12, ground := Go.Ground.data }], guard := none }) (by kernel_rfl) rfl (by decide) inv (fun inv K' hK => ?_)
    go_simp
    obtain ⟨wq, eq⟩ : ∃ wq, we.alloc (.cells #[.int .i64 x1, .int .i64 (x2 + 1)] 110) = wq := ⟨_, rfl⟩
    have hbq : Below we.heap.size we wq := by rw [← eq]; exact (Below.refl _ _).alloc (Nat.le_refl _) _
    have HNQ := hid (show wq.heap[we.heap.size]? = some (.cells #[.int .i64 x1, .int .i64 (x2 + 1)] 110 (0, 0)) from by rw [← eq]; exact new_block _ _)
    have HOq := hid (own_below HOe.out hbq)
    have HBq := hid (HBe.out.trans (hbq.mono HBe.out.size))
    have hdq := HBq.out.size
    have HH1 := HS.out wq hbq
    try rw [eq]
    refine hK.out _ _ HH1 ?_
    clear hK K' hbq HH0
    try simp only [Act.put, sjA, sj0, sjS]
    refine anyT_next (i := 14) (o := { dst := some 50, op := Go.Op.call { callee := Go.Callee.builtin Go.Builtin.append, args := #[Go.Operand.tmp 36, Go.Operand.tmp 49], argTypes := #[50, 50] }, type := 50, pos := "ref.go:100", after := #[{ on := 0, ground := Go.Ground.data }, { on := 13, ground := Go.Ground.data }], guard := none }) (by kernel_rfl) rfl (by decide) inv (fun inv K' hK => ?_)
    simp only [Region.wanted]
    rw [if_pos trivial]
    refine wp_push39 (.tmp 36) (.tmp 49) rfl w2.heap.size (.slice oo K.length oc) K.length (icells K) rfl HOq.out we.heap.size rfl x1 (x2 + 1) HNQ.out (by omega) hdq ?_
    intro v7 w7 hown7 hg7 hat7
    have HO8 := hid (own_push39 (x := (x1, (x2 + 1))) hown7)
    have HB8 := hid (HBq.out.grown hg7 hdq (fun q hq => (owns_lt HOq.out q hq).1))
    have HH2 := HS2.out w7 HB8.out
    refine hK.out _ _ HH2 ?_
    clear hK K' HH1 hown7 hg7 hat7
    try simp only [Act.put, sjA, sj0, sjS]
    refine anyT_one (i := 15) (o := { dst := some 7, op := Go.Op.assign (Go.Operand.tmp 50), type := 50, pos := "ref.go:100", after := #[{ on := 14, ground := Go.Ground.data }, { on := 14, ground := Go.Ground.chain }, { on := 0, ground := Go.Ground.phase }, { on := 1, ground := Go.Ground.phase }, { on := 2, ground := Go.Ground.phase }, { on := 3, ground := Go.Ground.phase }, { on := 4, ground := Go.Ground.phase }, { on := 5, ground := Go.Ground.phase }, { on := 6, ground := Go.Ground.phase }, { on := 7, ground := Go.Ground.phase }, { on := 8, ground := Go.Ground.phase }, { on := 9, ground := Go.Ground.phase }, { on := 10, ground := Go.Ground.phase }, { on := 11, ground := Go.Ground.phase }, { on := 12, ground := Go.Ground.phase }, { on := 13, ground := Go.Ground.phase }, { on := 14, ground := Go.Ground.phase }], guard := none }) (by kernel_rfl) rfl (fun K' hK => ?_)
    go_simp
    refine hK.out _ _ (fun h => absurd h (by decide)) ?_
    clear hK K'
    try simp only [Act.put, sjA, sj0, sjS]
    refine anyT_done (by kernel_rfl) ?_ _
    have HO9 := hid (show w7.ownsRow w2.heap.size 110 2 v7 (stepX G (C.take (k + 1)) sy).length (icells (stepX G (C.take (k + 1)) sy)) from by rw [HTK2.out]; exact HO8.out)
    go_wp2_with fail
    refine ⟨⟨k + 1, by omega, rfl, HO9, HB8⟩, ?_⟩
    show n - ((k : Int) + 1).toNat < n - ((k : Int)).toNat
    omega
  ·have t1 : ¬ (k : Int) < (n : Int) := by omega
   have hkn : k = n := by omega
   have HO2 := hid (show wr.ownsRow w2.heap.size 110 2 u7 ST.length (icells ST) from by
    have := HO.out
    rw [hkn, ← HLN.out, List.take_length, ← HST.out] at this
    exact this)
   have hSl : ST.length ≤ 1573 := by
    rw [HST.out]
    unfold X14.stepX
    rw [List.length_map]
    exact Nat.le_trans (List.length_filter_le _ _) (by rw [HLN.out]; exact hcl)
   clear hkn
   have KR := hid (RRising_any (own_items HO2.out (by omega)) (by omega))
   go_wp2_with fail
   refine KR.out.mono ?_
   rintro e w9 ⟨L, hL1, hL2, hL3, rv9, rfl, hL4, hL5⟩
   have HE := hid (show L = ST from hL1.eq (by rw [HST.out]; exact HRS.out) hL2)
   have HR := hid (And.intro hL4 hL5)
   clear hL1 hL2 hL3 hL4 hL5 KR
   go_wp2_with fail
   go_ret
   refine ⟨_, rfl, ?_, HB1.out.trans ((HF2.out w9 (HB.out.trans (HR.out.2.mono HB.out.size))).mono HB1.out.size)⟩
   rw [← HE.out]
   exact own_base HR.out.1 (Nat.le_trans (Nat.le_trans HB1.out.size HB2.out.size) HB.out.size)
end Go.Proofs.YticmnfmijdgmbaaGreatDoor

namespace Go.Proofs.YticmnfmijdgmbaaGreatDoor
open Go Go.RowKit Go.Lib
open X14 (It thereX behX rightX sortX closeV closeX IsClose stepX)
open Go.Maps (Keyed)
set_option linter.unusedVariables false
set_option linter.unusedSimpArgs false
theorem rowH_items {w : World} {g c : Nat} {l : List It} (h : RowH w g l) (hl : l.length ≤ 9223372036854775807) : ItemsAt w (.slice (some ⟨g, 0, none⟩) l.length c) l := by
 refine ⟨_, _, rfl, hl, fun _ => ⟨g, 0, rfl, fun i hi => ?_⟩⟩
 dsimp only
 rw [show l.getD i (0, 0) = l[i] by rw [List.getD_eq_getElem?_getD, List.getElem?_eq_getElem hi]; rfl, Nat.zero_add]
 exact ⟨(h i hi).1, (h i hi).2.1⟩
theorem items_nil (w : World) : ItemsAt w (.slice none 0 0) [] := ⟨none, 0, rfl, by simp, fun h => absurd h (by simp)⟩
theorem closeV_eq {G : GD} {l : List It} (hv : validB G = true) : closeV G l = closeX G l := by unfold closeV; rw [if_pos hv]
set_option maxRecDepth 100000 in
set_option maxHeartbeats 8000000 in
theorem Behind_any {G : GD} {gv : Value} {w : World} (h : Gram w gv G) (x : It) :
  Calls Tryz.prog 25 #[gv, itV x] w (BehVP G x w) := by
 have HGr := hid h
 obtain ⟨tv, ov, sv, pv, tf, rv, h⟩ := h
 obtain ⟨W1, B, hW1, hB, c0, c1, c2, c3, c4, hG, hb, hsz⟩ := gr_box h
 have hgv := h.eq
 subst hgv hB
 have e1 := hW1.symm
 obtain ⟨W2, e2⟩ : ∃ W2, W1.alloc (.cells #[.int .i64 x.1, .int .i64 x.2] 60) = W2 := ⟨_, rfl⟩
 have hb2 : Below W1.heap.size W1 W2 := by rw [← e2]; exact (Below.refl _ _).alloc (Nat.le_refl _) _
 have n2 : W2.heap[W1.heap.size]? = some (.cells #[.int .i64 x.1, .int .i64 x.2] 60 (0, 0)) := by rw [← e2]; exact heap_alloc_new _ _
 have lW : W1.heap.size < W2.heap.size := (Array.getElem?_eq_some_iff.1 n2).1
 have HB2 := hid (hb.trans (hb2.mono hsz))
 have c0 := cell_below hb2 c0
 have c1 := cell_below hb2 c1
 have c2 := cell_below hb2 c2
 have c3 := cell_below hb2 c3
 have c4 := cell_below hb2 c4
 have d0 : W2.cell? ⟨W1.heap.size, 0, none⟩ = some (.int .i64 x.1) := Lib.cell_of_heap n2 0
 have d1 : W2.cell? ⟨W1.heap.size, 1, none⟩ = some (.int .i64 x.2) := Lib.cell_of_heap n2 1
 have HC := hid (And.intro c0 (And.intro c1 (And.intro c2 (And.intro c3 (And.intro c4 (And.intro d0 d1))))))
 have KV := hid (Valid_any (hG.mono hb2))
 obtain ⟨vv, hvv⟩ : ∃ vv, validB G = vv := ⟨_, rfl⟩
 have HVV := hid hvv
 have HIV := hid (show isV G x = (vv && thereX G x) from by unfold isV; rw [hvv])
 have HIN := hid (show isV G x = false → behV G x = none from behV_no)
 have HIY := hid (show isV G x = true → behV G x = behX G x from fun _ => by unfold behV; split <;> rename_i k; rfl; rename_i q; exact absurd (X14.isV_iff.1 q).1 k)
 rw [hvv] at KV
 unfold itV
 clear h hG hW1 hb hb2 n2 hvv
 go_enter Tryz.func25, Tryz.ntmps25
 go_wp2_with fail
 refine KV.out.mono ?_
 rintro e w3 ⟨rfl, hb3⟩
 have c0 := cell_below hb3 HC.out.1
 have c1 := cell_below hb3 HC.out.2.1
 have c2 := cell_below hb3 HC.out.2.2.1
 have c3 := cell_below hb3 HC.out.2.2.2.1
 have c4 := cell_below hb3 HC.out.2.2.2.2.1
 have d0 := cell_below hb3 HC.out.2.2.2.2.2.1
 have d1 := cell_below hb3 HC.out.2.2.2.2.2.2
 have HC := hid (And.intro c0 (And.intro c1 (And.intro c2 (And.intro c3 (And.intro c4 (And.intro d0 d1))))))
 have HB3 := hid (HB2.out.trans (hb3.mono HB2.out.size))
 clear hb3 KV e1 e2
 cases vv
 ·have HN := hid (HIN.out HIV.out)
  go_wp2_with fail
  refine bodyPost_ret (results_tmp2 rfl _ _ _) rfl ?_
  refine ⟨?_, HB3.out⟩
  rw [HN.out]
  rfl
 ·rw [Bool.true_and] at HIV
  obtain ⟨th, hth⟩ : ∃ th, thereX G x = th := ⟨_, rfl⟩
  have KT := there_any (HGr.out.below HB3.out) HVV.out x
  rw [hth] at KT HIV
  have KT := hid KT
  have HTH := hid hth
  unfold itV at KT
  clear hth
  go_wp2_with fail
  refine KT.out.mono ?_
  rintro e w4 ⟨rfl, hb4⟩
  have c0 := cell_below hb4 HC.out.1
  have c1 := cell_below hb4 HC.out.2.1
  have c2 := cell_below hb4 HC.out.2.2.1
  have c3 := cell_below hb4 HC.out.2.2.2.1
  have c4 := cell_below hb4 HC.out.2.2.2.2.1
  have d0 := cell_below hb4 HC.out.2.2.2.2.2.1
  have d1 := cell_below hb4 HC.out.2.2.2.2.2.2
  have HB4 := hid (HB3.out.trans (hb4.mono HB3.out.size))
  clear hb4 KT
  cases th
  ·have HN := hid (HIN.out HIV.out)
   go_wp2_with fail
   refine bodyPost_ret (results_tmp2 rfl _ _ _) rfl ?_
   refine ⟨?_, HB4.out⟩
   rw [HN.out]
   rfl
  ·have KB := behind_any (HGr.out.below HB4.out) HVV.out x HTH.out
   unfold BehP at KB
   rw [← HIY.out HIV.out] at KB
   obtain ⟨sy, hsy⟩ : ∃ sy, (behV G x).getD 0 = sy := ⟨_, rfl⟩
   obtain ⟨ok, hok⟩ : ∃ ok, (behV G x).isSome = ok := ⟨_, rfl⟩
   rw [hsy, hok] at KB
   have KB := hid KB
   unfold itV at *
   have HSY := hid hsy
   have HOK := hid hok
   clear hsy hok
   go_wp2_with fail
   refine KB.out.mono ?_
   rintro e w5 ⟨rfl, hb5⟩
   have HB5 := hid (HB4.out.trans (hb5.mono HB4.out.size))
   clear hb5 KB
   go_wp2_with fail
   refine bodyPost_ret (results_tmp2 rfl _ _ _) rfl ?_
   refine ⟨?_, HB5.out⟩
   rw [HSY.out, HOK.out]
   rfl
end Go.Proofs.YticmnfmijdgmbaaGreatDoor
