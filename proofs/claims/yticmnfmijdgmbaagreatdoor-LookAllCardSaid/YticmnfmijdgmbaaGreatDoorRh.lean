/- What items come to, as the document has it. -/
import Derived.Test.YticmnfmijdgmbaaGreatDoorGb
import Derived.Test.YticmnfmijdgmbaaGreatDoorRg
namespace Go.Proofs.YticmnfmijdgmbaaGreatDoor
open Go Go.RowKit Go.Lib
open X14 (It Less Rise thereX behX sortX rightX closeV GaX ReX isV_iff)
set_option linter.unusedVariables false
set_option linter.unusedSimpArgs false
theorem own_base {w : World} {B B' n sz : Nat} {e : TypeId} {v : Value} {xs : List Value} (h : w.ownsRow B e sz v n xs) (hb : B' ≤ B) : w.ownsRow B' e sz v n xs := by
 refine ⟨h.1, ?_⟩
 rcases h.2 with hn | ⟨g, cap, cur, h1, hB, rest⟩
 ·exact .inl hn
 ·exact .inr ⟨g, cap, cur, h1, Nat.le_trans hb hB, rest⟩
theorem made_item (w : World) (p : Int) {wx wa wb : World} (ex : w.alloc (.cells #[.int .i64 0, .int .i64 0] 110) = wx) (ea : wx.setCell ⟨w.heap.size, 0, none⟩ (.int .i64 p) = wa) (eb : wa.setCell ⟨w.heap.size, 1, none⟩ (.int .i64 0) = wb) :
  wx.heap[w.heap.size]? = some (.cells #[.int .i64 0, .int .i64 0] 110 (0, 0)) ∧ wa.heap[w.heap.size]? = some (.cells #[.int .i64 p, .int .i64 0] 110 (0, 0)) ∧ wb.heap[w.heap.size]? = some (.cells #[.int .i64 p, .int .i64 0] 110 (0, 0)) ∧ Below w.heap.size w wb := by
 have nx : wx.heap[w.heap.size]? = some (.cells #[.int .i64 0, .int .i64 0] 110 (0, 0)) := by rw [← ex]; exact new_block _ _
 have na : wa.heap[w.heap.size]? = some (.cells #[.int .i64 p, .int .i64 0] 110 (0, 0)) := by rw [← ea]; exact heap_setCell_same _ _ 0 _ 110 _ nx
 refine ⟨nx, na, by rw [← eb]; exact heap_setCell_same _ _ 1 _ 110 _ na, ?_⟩
 rw [← eb, ← ea, ← ex]
 exact ((((Below.refl _ _).alloc (Nat.le_refl _) _).setCell (Nat.le_refl _) _).setCell (Nat.le_refl _) _)
set_option maxRecDepth 100000 in
set_option maxHeartbeats 16000000 in
theorem RClose_any {G : GD} {gv v : Value} {w : World} {l : List It} (h : Gram w gv G) (hi : ItemsAt w v l) (hl : l.length ≤ 100000) :
  Calls Tryz.prog 47 #[gv, v] w (RowP (closeV G l) w) := by
 have HGr := hid h
 obtain ⟨vo, vc, rfl, hvn⟩ := hi.len
 obtain ⟨n, hln⟩ : ∃ n, l.length = n := ⟨_, rfl⟩
 have HLN := hid hln
 obtain ⟨tv, ov, sv, pv, tf, rv, h⟩ := h
 obtain ⟨W1, B, hW1, hB, c0, c1, c2, c3, c4, hG, hb, hsz⟩ := gr_box h
 have hgv := h.eq
 subst hgv hB
 have e1 := hW1.symm
 obtain ⟨pa, pc, rfl, hpn, hpc⟩ := hG.prods
 obtain ⟨np, hnp⟩ : ∃ np, G.prods.length = np := ⟨_, rfl⟩
 have HNP := hid hnp
 have HPC := hid hpc
 have HL := hid (hi.below hb)
 have HB1 := hid hb
 rw [hln] at HL hvn hl ⊢
 rw [hnp] at c3 HGr e1 hpn ⊢
 have HC := hid (And.intro c0 (And.intro c1 (And.intro c2 (And.intro c3 c4))))
 have HWG := hid (show ∀ w', Below W1.heap.size W1 w' → Gram w' (.agg #[tv, ov, sv, .slice pa np pc, .int .i64 G.start]) G from fun w' hC => HGr.out.below (hb.trans (hC.mono hsz)))
 clear h hG hW1 hb hi hln hnp hpc c0 c1 c2 c3 c4
 go_enter Tryz.func47, Tryz.ntmps47
 go_wp2_with fail
 clear e1
 go_loopw [5, 6] (fun t5 t6 wr => ∃ (i : Nat) (O : List It), i ≤ n ∧ t6 = .int .i64 (i : Int) ∧ Hid (GaX G l O i) ∧ Hid (wr.ownsRow W1.heap.size 110 2 t5 O.length (icells O)) ∧ Hid (Below W1.heap.size W1 wr)) (fun _ t6 _ => n - (RowKit.intOf t6).toNat)
 case atStart => exact ⟨0, [], Nat.zero_le _, rfl, hid (GaX.start G l), hid (World.ownsRow_nil _ _ _ _), hid (Below.refl _ _)⟩
 case round =>
  obtain ⟨i, O, hi, rfl, HX, HO, HB⟩ := hrel
  have hszr := HB.out.size
  have hOl : O.length ≤ 1573 := X14.in_len HX.out.nd fun x hx => (HX.out.inn x hx).1
  obtain ⟨oo, oc, rfl⟩ := own_shape HO.out
  by_cases hlt : i < n
  ·have t1 : (i : Int) < (n : Int) := by omega
   have t2 : (0 : Int) ≤ (i : Int) := by omega
   obtain ⟨x, hx⟩ : ∃ x, l[i]? = some x := ⟨_, List.getElem?_eq_getElem (by rw [HLN.out]; exact hlt)⟩
   have HXX := hid hx
   obtain ⟨lb, lo, rfl, q0, q1⟩ := HL.out.at_ hx
   have HQ0 : Hid (∀ w', Below wr.heap.size wr w' → w'.cell? ⟨lb, lo + i * 2, none⟩ = some (.int .i64 x.1)) := hid fun w' hC => cell_below hC (cell_below HB.out q0)
   have HQ1 : Hid (∀ w', Below wr.heap.size wr w' → w'.cell? ⟨lb, lo + i * 2 + 1, none⟩ = some (.int .i64 x.2)) := hid fun w' hC => cell_below hC (cell_below HB.out q1)
   have HQ2 : Hid (∀ w', Below wr.heap.size wr w' → w'.cell? ⟨w.heap.size, 0, none⟩ = some (tv)) := hid fun w' hC => cell_below hC (cell_below HB.out HC.out.1)
   have HQ3 : Hid (∀ w', Below wr.heap.size wr w' → w'.cell? ⟨w.heap.size, 1, none⟩ = some (ov)) := hid fun w' hC => cell_below hC (cell_below HB.out HC.out.2.1)
   have HQ4 : Hid (∀ w', Below wr.heap.size wr w' → w'.cell? ⟨w.heap.size, 2, none⟩ = some (sv)) := hid fun w' hC => cell_below hC (cell_below HB.out HC.out.2.2.1)
   have HQ5 : Hid (∀ w', Below wr.heap.size wr w' → w'.cell? ⟨w.heap.size, 3, none⟩ = some (.slice pa np pc)) := hid fun w' hC => cell_below hC (cell_below HB.out HC.out.2.2.2.1)
   have HQ6 : Hid (∀ w', Below wr.heap.size wr w' → w'.cell? ⟨w.heap.size, 4, none⟩ = some (.int .i64 G.start)) := hid fun w' hC => cell_below hC (cell_below HB.out HC.out.2.2.2.2)
   obtain ⟨iv, hiv⟩ : ∃ iv, isV G x = iv := ⟨_, rfl⟩
   have hKI : ∀ w', Below wr.heap.size wr w' → Calls Tryz.prog 57 #[.agg #[tv, ov, sv, .slice pa np pc, .int .i64 G.start], .agg #[.int .i64 x.1, .int .i64 x.2]] w' fun e w'' => e = .returned (.bool iv) ∧ Below w'.heap.size w' w'' := fun w' hC => by
    have h2 := RIs_any (HWG.out w' (HB.out.trans (hC.mono hszr))) x
    rw [hiv] at h2
    exact h2
   have KI := hid hKI
   obtain ⟨hb, hhb⟩ : ∃ hb, decide (x ∈ O) = hb := ⟨_, rfl⟩
   have hKH : ∀ w', Below wr.heap.size wr w' → Calls Tryz.prog 90 #[.slice oo O.length oc, .agg #[.int .i64 x.1, .int .i64 x.2]] w' fun e w'' => e = .returned (.bool hb) ∧ Below w'.heap.size w' w'' := fun w' hC => by
    have h2 := has_any (own_items (own_below HO.out hC) (by omega)) x
    rw [hhb] at h2
    exact h2
   have KH := hid hKH
   clear hKI hKH hx
   cases iv
   ·have HX2 := hid (HX.out.skip HXX.out (fun e => by rw [hiv] at e; cases e))
    clear hiv hhb q0 q1
    go_wp2_with fail
    refine wp_region_below (by kernel_rfl) (by kernel_rfl) ?_
    iterate 15
     first
     | with_reducible refine BigFrame.wpQuiet_skip (by with_unfolding_all rfl) ?_
     | with_reducible refine BigFrame.wpQuiet_want (by kernel_rfl) (fun K hK => ?_)
       apply Exists.intro
       refine ⟨fun w' hC => ?_, hK _ ?_⟩
       ·have f0' := HQ0.out w' hC
        have f1' := HQ1.out w' hC
        have f2' := HQ2.out w' hC
        have f3' := HQ3.out w' hC
        have f4' := HQ4.out w' hC
        have f5' := HQ5.out w' hC
        have f6' := HQ6.out w' hC
        unfold Oper.quietAt
        go_simp
        first | with_reducible rfl | with_reducible exact below_call hC (Nat.le_refl _) (KI.out w' hC)
       clear hK K
     try simp only [Act.put, sjA, sj0, sjS]
    refine wpQuiet_nil ?_
    intro w6 hb6
    have HO6 := hid (own_below HO.out hb6)
    have HB6 := hid (HB.out.trans (hb6.mono hszr))
    clear hb6
    go_wp2_with fail
    refine ⟨⟨i + 1, O, by omega, rfl, HX2, HO6, HB6⟩, ?_⟩
    show n - ((i : Int) + 1).toNat < n - ((i : Int)).toNat
    omega
   ·cases hb
    ·have HX2 := hid (HX.out.put HXX.out hiv (of_decide_eq_false hhb))
     clear hiv hhb
     go_wp2_with fail
     refine wp_region_below (by kernel_rfl) (by kernel_rfl) ?_
     iterate 15
      with_reducible refine BigFrame.wpQuiet_want (by kernel_rfl) (fun K hK => ?_)
      apply Exists.intro
      refine ⟨fun w' hC => ?_, hK _ ?_⟩
      ·have f0' := HQ0.out w' hC
       have f1' := HQ1.out w' hC
       have f2' := HQ2.out w' hC
       have f3' := HQ3.out w' hC
       have f4' := HQ4.out w' hC
       have f5' := HQ5.out w' hC
       have f6' := HQ6.out w' hC
       unfold Oper.quietAt
       go_simp
       first | with_reducible rfl | with_reducible exact below_call hC (Nat.le_refl _) (KI.out w' hC) | with_reducible exact below_call hC (Nat.le_refl _) (KH.out w' hC)
      clear hK K
      try simp only [Act.put, sjA, sj0, sjS]
     refine wpQuiet_nil ?_
     intro w6 hb6
     have HO6 := hid (own_below HO.out hb6)
     have HB6 := hid (HB.out.trans (hb6.mono hszr))
     have q0 := HQ0.out w6 hb6
     have q1 := HQ1.out w6 hb6
     clear hb6 HQ0 HQ1 HQ2 HQ3 HQ4 HQ5 HQ6 KI KH
     obtain ⟨wq, eq⟩ : ∃ wq, w6.alloc (.cells #[.int .i64 x.1, .int .i64 x.2] 110) = wq := ⟨_, rfl⟩
     have hbq : Below w6.heap.size w6 wq := by rw [← eq]; exact (Below.refl _ _).alloc (Nat.le_refl _) _
     have HNQ := hid (show wq.heap[w6.heap.size]? = some (.cells #[.int .i64 x.1, .int .i64 x.2] 110 (0, 0)) from by rw [← eq]; exact new_block _ _)
     have HOq := hid (own_below HO6.out hbq)
     have HBq := hid (HB6.out.trans (hbq.mono HB6.out.size))
     have hdq := HBq.out.size
     clear hbq
     go_wp2_with (at_builtin; refine wpList_push39 rfl (.tmp 33) (.tmp 38) rfl W1.heap.size (.slice oo O.length oc) O.length (icells O) rfl HOq.out w6.heap.size rfl x.1 x.2 HNQ.out (by omega) hdq ?_)
     intro v7 w7 hown7 hg7 hat7
     have HO8 := hid (own_push39 hown7)
     have HB8 := hid (HBq.out.grown hg7 hdq (fun q hq => (owns_lt HOq.out q hq).1))
     clear hown7 hg7 hat7 eq q0 q1
     go_wp2_with fail
     refine ⟨⟨i + 1, O ++ [x], by omega, rfl, HX2, HO8, HB8⟩, ?_⟩
     show n - ((i : Int) + 1).toNat < n - ((i : Int)).toNat
     omega
    ·have HX2 := hid (HX.out.skip HXX.out (fun _ => of_decide_eq_true hhb))
     clear hiv hhb q0 q1
     go_wp2_with fail
     refine wp_region_below (by kernel_rfl) (by kernel_rfl) ?_
     iterate 15
      with_reducible refine BigFrame.wpQuiet_want (by kernel_rfl) (fun K hK => ?_)
      apply Exists.intro
      refine ⟨fun w' hC => ?_, hK _ ?_⟩
      ·have f0' := HQ0.out w' hC
       have f1' := HQ1.out w' hC
       have f2' := HQ2.out w' hC
       have f3' := HQ3.out w' hC
       have f4' := HQ4.out w' hC
       have f5' := HQ5.out w' hC
       have f6' := HQ6.out w' hC
       unfold Oper.quietAt
       go_simp
       first | with_reducible rfl | with_reducible exact below_call hC (Nat.le_refl _) (KI.out w' hC) | with_reducible exact below_call hC (Nat.le_refl _) (KH.out w' hC)
      clear hK K
      try simp only [Act.put, sjA, sj0, sjS]
     refine wpQuiet_nil ?_
     intro w6 hb6
     have HO6 := hid (own_below HO.out hb6)
     have HB6 := hid (HB.out.trans (hb6.mono hszr))
     clear hb6
     go_wp2_with fail
     refine ⟨⟨i + 1, O, by omega, rfl, HX2, HO6, HB6⟩, ?_⟩
     show n - ((i : Int) + 1).toNat < n - ((i : Int)).toNat
     omega
  ·have t1 : ¬ (i : Int) < (n : Int) := by omega
   have hin : i = n := by omega
   have HR0 := hid (GaX.re (show GaX G l O l.length from by rw [HLN.out, ← hin]; exact HX.out))
   clear HX hin hOl
   generalize hwo : wr = wo at *
   clear hwo
   have hOO := HR0.out.len
   have HOw := hid (show ∃ Q : Nat, O.length ≤ Q from ⟨_, Nat.le_refl _⟩)
   go_wp2_with fail
   go_loopw [5, 7, 8, 9, 10, 11] (fun t5 t7 t8 t9 t10 t11 wr => ∃ (i : Nat) (O : List It), i ≤ O.length ∧ t7 = .int .i64 (i : Int) ∧ Hid (ReX G l O i) ∧ Hid (wr.ownsRow W1.heap.size 110 2 t5 O.length (icells O)) ∧ Hid (Below W1.heap.size W1 wr)) (fun _ t7 _ _ _ _ _ => 1600 - (RowKit.intOf t7).toNat)
   case atStart => exact ⟨0, O, Nat.zero_le _, rfl, HR0, HO, HB⟩
   case round =>
    clear HO HB HR0 hOO HOw hszr
    obtain ⟨i, O, hi, rfl, HX, HO, HB⟩ := hrel
    have hszr := HB.out.size
    have hOl := HX.out.len
    obtain ⟨oo, oc, rfl⟩ := own_shape HO.out
    by_cases hlt : i < O.length
    ·have t1 : (i : Int) < (O.length : Int) := by omega
     have t2 : (0 : Int) ≤ (i : Int) := by omega
     obtain ⟨x, hx⟩ : ∃ x, O[i]? = some x := ⟨_, List.getElem?_eq_getElem hlt⟩
     have HXX := hid hx
     have hxm := List.mem_of_getElem? hx
     obtain ⟨hval, hin⟩ := HX.out.inn x hxm
     have HVAL := hid hval
     obtain ⟨lb, lo, rfl, q0, q1⟩ := (own_items HO.out (by omega)).at_ hx
     have HQ0 : Hid (∀ w', Below wr.heap.size wr w' → w'.cell? ⟨lb, lo + i * 2, none⟩ = some (.int .i64 x.1)) := hid fun w' hC => cell_below hC q0
     have HQ1 : Hid (∀ w', Below wr.heap.size wr w' → w'.cell? ⟨lb, lo + i * 2 + 1, none⟩ = some (.int .i64 x.2)) := hid fun w' hC => cell_below hC q1
     have HQ2 : Hid (∀ w', Below wr.heap.size wr w' → w'.cell? ⟨w.heap.size, 0, none⟩ = some (tv)) := hid fun w' hC => cell_below hC (cell_below HB.out HC.out.1)
     have HQ3 : Hid (∀ w', Below wr.heap.size wr w' → w'.cell? ⟨w.heap.size, 1, none⟩ = some (ov)) := hid fun w' hC => cell_below hC (cell_below HB.out HC.out.2.1)
     have HQ4 : Hid (∀ w', Below wr.heap.size wr w' → w'.cell? ⟨w.heap.size, 2, none⟩ = some (sv)) := hid fun w' hC => cell_below hC (cell_below HB.out HC.out.2.2.1)
     have HQ5 : Hid (∀ w', Below wr.heap.size wr w' → w'.cell? ⟨w.heap.size, 3, none⟩ = some (.slice pa np pc)) := hid fun w' hC => cell_below hC (cell_below HB.out HC.out.2.2.2.1)
     have HQ6 : Hid (∀ w', Below wr.heap.size wr w' → w'.cell? ⟨w.heap.size, 4, none⟩ = some (.int .i64 G.start)) := hid fun w' hC => cell_below hC (cell_below HB.out HC.out.2.2.2.2)
     obtain ⟨sy, hsy⟩ : ∃ sy, (behV G x).getD 0 = sy := ⟨_, rfl⟩
     obtain ⟨ok, hok⟩ : ∃ ok, (behV G x).isSome = ok := ⟨_, rfl⟩
     have hKB : ∀ w', Below wr.heap.size wr w' → Calls Tryz.prog 56 #[.agg #[tv, ov, sv, .slice pa np pc, .int .i64 G.start], .agg #[.int .i64 x.1, .int .i64 x.2]] w' fun e w'' => e = .returned (.tuple #[.int .i64 sy, .bool ok]) ∧ Below w'.heap.size w' w'' := fun w' hC => by
      have h2 := RBehind_any (HWG.out w' (HB.out.trans (hC.mono hszr))) x
      unfold BehVP at h2
      rw [hsy, hok] at h2
      exact h2
     have KB := hid hKB
     have HBX := hid (show behX G x = if ok = true then some sy else none from by
      have e : behV G x = behX G x := by unfold behV; rw [if_pos hval]
      rw [← hsy, ← hok, ← e]
      cases behV G x <;> rfl)
     have HXM := hid hxm
     clear hKB hx hxm hval hin hsy hok q0 q1
     go_wp2_with fail
     refine wp_region_below (by kernel_rfl) (by kernel_rfl) ?_
     iterate 11
      with_reducible refine BigFrame.wpQuiet_want (by kernel_rfl) (fun K hK => ?_)
      apply Exists.intro
      refine ⟨fun w' hC => ?_, hK _ ?_⟩
      ·have f0' := HQ0.out w' hC
       have f1' := HQ1.out w' hC
       have f2' := HQ2.out w' hC
       have f3' := HQ3.out w' hC
       have f4' := HQ4.out w' hC
       have f5' := HQ5.out w' hC
       have f6' := HQ6.out w' hC
       unfold Oper.quietAt
       go_simp
       first | with_reducible rfl | with_reducible exact below_call hC (Nat.le_refl _) (KB.out w' hC)
      clear hK K
      try simp only [Act.put, sjA, sj0, sjS]
     refine wpQuiet_nil ?_
     intro w6 hb6
     have HO7 := hid (own_below HO.out hb6)
     have HB7 := hid (HB.out.trans (hb6.mono hszr))
     clear hb6 HO HB HQ0 HQ1 HQ2 HQ3 HQ4 HQ5 HQ6 KB hszr
     generalize hwo : w6 = w5 at *
     clear hwo
     have HTL := hid hlt
     have hiL : i < 1600 := by omega
     have HSY := hid (show ok = true → sy < 0 → ∃ t : Nat, -1 - sy = (t : Int) ∧ t < 60 from fun h1 h2 => by
      have h3 := HBX.out
      rw [if_pos h1] at h3
      have h4 := beh_sort HVAL.out h3 h2
      have h5 := (valid_parts HVAL.out).2.1
      exact ⟨(-1 - sy).toNat, by omega, by omega⟩)
     clear hi t1 hlt hOl
     have HXs := HX
     go_wp2_with fail
     go_loopw [5, 10, 11] (fun t5 t10 t11 wr => ∃ (p : Nat) (O : List It), p ≤ np ∧ t10 = .int .i64 (p : Int) ∧ Hid (ReX G l O i) ∧ Hid (O[i]? = some x) ∧ Hid (ok = true → sy < 0 → ∀ q : Nat, q < p → sortX G q = -1 - sy → ((q : Int), (0 : Int)) ∈ O) ∧ Hid (wr.ownsRow W1.heap.size 110 2 t5 O.length (icells O)) ∧ Hid (Below W1.heap.size W1 wr)) (fun _ t10 _ _ => np - (RowKit.intOf t10).toNat)
     case atStart => exact ⟨0, O, Nat.zero_le _, rfl, HX, HXX, hid (fun _ _ q hq => absurd hq (Nat.not_lt_zero q)), HO7, HB7⟩
     case round =>
      clear HX HXX HO7 HB7 HTL HXM HXs
      obtain ⟨p, O, hp, rfl, HX, HXX, HQ, HO, HB⟩ := hrel
      have hszr := HB.out.size
      have hOl := HX.out.len
      obtain ⟨oo, oc, rfl⟩ := own_shape HO.out
      have c3 : wr.cell? ⟨w.heap.size, 3, none⟩ = some (.slice pa np pc) := cell_below HB.out HC.out.2.2.2.1
      have HXL := hid (show i + 1 ≤ O.length from (List.getElem?_eq_some_iff.1 HXX.out).1)
      by_cases hpn2 : p < np
      ·have t3 : (p : Int) < (np : Int) := by omega
       have t4 : (0 : Int) ≤ (p : Int) := by omega
       cases ok
       ·have HX2 := hid (HX.out.next HXX.out (fun s q hb => by rw [HBX.out] at hb; cases hb))
        go_wp2_with fail
        refine ⟨⟨i + 1, O, HXL.out, rfl, HX2, HO, HB⟩, ?_⟩
        show 1600 - ((i : Int) + 1).toNat < 1600 - ((i : Int)).toNat
        omega
       ·by_cases hs0 : sy < 0
        ·obtain ⟨t, hst, ht60⟩ := HSY.out rfl hs0
         obtain ⟨pb, po, rfl, hpq⟩ := HPC.out (by have := HNP.out; omega)
         have hq := (hpq p (by have := HNP.out; omega)).2.1
         obtain ⟨sp, hsp⟩ : ∃ sp, (G.prods.getD p default).sort = sp := ⟨_, rfl⟩
         rw [hsp] at hq
         have HSP := hid (show sortX G p = sp from hsp)
         obtain ⟨wx, ex⟩ : ∃ wx, wr.alloc (.cells #[.int .i64 0, .int .i64 0] 110) = wx := ⟨_, rfl⟩
         obtain ⟨wa, ea⟩ : ∃ wa, wx.setCell ⟨wr.heap.size, 0, none⟩ (.int .i64 (p : Int)) = wa := ⟨_, rfl⟩
         obtain ⟨wb, eb⟩ : ∃ wb, wa.setCell ⟨wr.heap.size, 1, none⟩ (.int .i64 0) = wb := ⟨_, rfl⟩
         obtain ⟨nx, na, nb, hbb⟩ := made_item wr (p : Int) ex ea eb
         have c0 : wx.cell? ⟨wr.heap.size, 0, none⟩ = some (.int .i64 0) := Lib.cell_of_heap nx 0
         have f0 := Lib.frozen_of_heap nx 0
         have c1 : wa.cell? ⟨wr.heap.size, 1, none⟩ = some (.int .i64 0) := Lib.cell_of_heap na 1
         have f1 := Lib.frozen_of_heap na 1
         have d0 : wb.cell? ⟨wr.heap.size, 0, none⟩ = some (.int .i64 (p : Int)) := Lib.cell_of_heap nb 0
         have d1 : wb.cell? ⟨wr.heap.size, 1, none⟩ = some (.int .i64 0) := Lib.cell_of_heap nb 1
         have hq := cell_below (HB.out.trans (hbb.mono hszr)) hq
         have c3 := cell_below hbb c3
         have HBb := hid (HB.out.trans (hbb.mono hszr))
         have HOb := hid (own_below HO.out hbb)
         have HNB := hid nb
         have hsb := hbb.size
         have hlw := (Array.getElem?_eq_some_iff.1 nb).1
         clear hpq hsp nx na nb hbb HO HB
         by_cases hse : sp = (t : Int)
         ·subst hse
          obtain ⟨hb, hhb⟩ : ∃ hb, decide (((p : Int), (0 : Int)) ∈ O) = hb := ⟨_, rfl⟩
          have h2 := has_any (own_items HOb.out (by omega)) ((p : Int), (0 : Int))
          rw [hhb] at h2
          have KH := hid h2
          unfold itV at KH
          dsimp only at KH
          clear h2
          go_wp2_with fail
          refine KH.out.mono ?_
          rintro e w6 ⟨rfl, hb6⟩
          have HO6 := hid (own_below HOb.out hb6)
          have HB6 := hid (HBb.out.trans (hb6.mono HBb.out.size))
          have n6 := (hb6.block _ hlw).trans HNB.out
          have d0 : w6.cell? ⟨wr.heap.size, 0, none⟩ = some (.int .i64 (p : Int)) := Lib.cell_of_heap n6 0
          have d1 : w6.cell? ⟨wr.heap.size, 1, none⟩ = some (.int .i64 0) := Lib.cell_of_heap n6 1
          clear hb6 c0 f0 c1 f1 ex ea eb n6 KH HOb HBb c3 hq
          cases hb
          ·have HX2 := hid (HX.out.put (List.mem_of_getElem? HXX.out) (Nat.le_of_succ_le HXL.out) (show behX G x = some sy from HBX.out) hs0 (by rw [HNP.out]; exact hpn2) (by rw [HSP.out, hst]) (of_decide_eq_false hhb))
           have HXX2 := hid (show (O ++ [((p : Int), (0 : Int))])[i]? = some x from by rw [List.getElem?_append_left HXL.out]; exact HXX.out)
           have HQ2 := hid (show True → sy < 0 → ∀ q : Nat, q < p + 1 → sortX G q = -1 - sy → ((q : Int), (0 : Int)) ∈ O ++ [((p : Int), (0 : Int))] from fun h1 h2 q hq he => by
            by_cases hqp : q < p
            ·exact List.mem_append_left _ (HQ.out (by first | exact h1 | trivial | rfl) h2 q hqp he)
            ·obtain rfl : q = p := by omega
             simp)
           obtain ⟨wq, eq⟩ : ∃ wq, w6.alloc (.cells #[.int .i64 (p : Int), .int .i64 0] 110) = wq := ⟨_, rfl⟩
           have hbq : Below w6.heap.size w6 wq := by rw [← eq]; exact (Below.refl _ _).alloc (Nat.le_refl _) _
           have HNQ := hid (show wq.heap[w6.heap.size]? = some (.cells #[.int .i64 (p : Int), .int .i64 0] 110 (0, 0)) from by rw [← eq]; exact new_block _ _)
           have HOq := hid (own_below HO6.out hbq)
           have HBq := hid (HB6.out.trans (hbq.mono HB6.out.size))
           have hdq := HBq.out.size
           clear hbq hhb
           go_wp2_with (at_builtin; refine wpList_push39 rfl (.tmp 86) (.tmp 88) rfl W1.heap.size (.slice oo O.length oc) O.length (icells O) rfl HOq.out w6.heap.size rfl (p : Int) 0 HNQ.out (by omega) hdq ?_)
           intro v7 w7 hown7 hg7 hat7
           have HO8 := hid (own_push39 (x := ((p : Int), (0 : Int))) hown7)
           have HB8 := hid (HBq.out.grown hg7 hdq (fun q hq => (owns_lt HOq.out q hq).1))
           clear hown7 hg7 hat7 eq d0 d1 HOq HBq HNQ
           go_wp2_with fail
           refine ⟨⟨p + 1, O ++ [((p : Int), (0 : Int))], by omega, rfl, HX2, HXX2, HQ2, HO8, HB8⟩, ?_⟩
           show np - ((p : Int) + 1).toNat < np - ((p : Int)).toNat
           omega
          ·have HQ2 := hid (show True → sy < 0 → ∀ q : Nat, q < p + 1 → sortX G q = -1 - sy → ((q : Int), (0 : Int)) ∈ O from fun h1 h2 q hq he => by
            by_cases hqp : q < p
            ·exact HQ.out (by first | exact h1 | trivial | rfl) h2 q hqp he
            ·obtain rfl : q = p := by omega
             exact of_decide_eq_true hhb)
           clear hhb
           go_wp2_with fail
           refine ⟨⟨p + 1, O, by omega, rfl, HX, HXX, HQ2, HO6, HB6⟩, ?_⟩
           show np - ((p : Int) + 1).toNat < np - ((p : Int)).toNat
           omega
         ·have hse2 : (sp == (t : Int)) = false := by rw [beq_eq_false_iff_ne]; exact hse
          have HQ2 := hid (show True → sy < 0 → ∀ q : Nat, q < p + 1 → sortX G q = -1 - sy → ((q : Int), (0 : Int)) ∈ O from fun h1 h2 q hq he => by
           by_cases hqp : q < p
           ·exact HQ.out (by first | exact h1 | trivial | rfl) h2 q hqp he
           ·obtain rfl : q = p := by omega
            exact absurd (by rw [← HSP.out, he, hst]) hse)
          go_wp2_with fail
          refine ⟨⟨p + 1, O, by omega, rfl, HX, HXX, HQ2, HOb, HBb⟩, ?_⟩
          show np - ((p : Int) + 1).toNat < np - ((p : Int)).toNat
          omega
        ·have hs1 : decide (sy < 0) = false := decide_eq_false hs0
         have HX2 := hid (HX.out.next HXX.out (fun s q hb hs => by
          rw [HBX.out, if_pos rfl] at hb
          injection hb with hb
          omega))
         go_wp2_with fail
         refine ⟨⟨i + 1, O, HXL.out, rfl, HX2, HO, HB⟩, ?_⟩
         show 1600 - ((i : Int) + 1).toNat < 1600 - ((i : Int)).toNat
         omega
      ·have t3 : ¬ (p : Int) < (np : Int) := by omega
       have hpe : p = np := by omega
       have HX2 := hid (HX.out.next HXX.out (fun s q hb hs hq he => by
        rw [HBX.out] at hb
        split at hb
        ·rename_i k
         injection hb with hb
         subst hb
         exact HQ.out k hs q (by rw [hpe, ← HNP.out]; exact hq) he
        ·cases hb))
       clear hpe
       go_wp2_with fail
       refine ⟨⟨i + 1, O, HXL.out, rfl, HX2, HO, HB⟩, ?_⟩
       show 1600 - ((i : Int) + 1).toNat < 1600 - ((i : Int)).toNat
       omega
    ·have t1 : ¬ (i : Int) < (O.length : Int) := by omega
     have KR := hid (RRising_any (own_items HO.out (by omega)) (by omega))
     have HOL := hid (show O.length ≤ i from by omega)
     clear hlt
     go_wp2_with fail
     refine KR.out.mono ?_
     rintro e w9 ⟨L, hL1, hL2, hL3, rv9, rfl, hL4, hL5⟩
     have HR := hid (And.intro (HX.out.close HOL.out hL1 hL2) (And.intro hL4 hL5))
     clear hL1 hL2 hL3 hL4 hL5 KR
     go_wp2_with fail
     go_ret
     refine ⟨_, rfl, ?_, HB1.out.trans ((HB.out.trans (HR.out.2.2.mono HB.out.size)).mono HB1.out.size)⟩
     rw [← HR.out.1]
     exact own_base HR.out.2.1 (Nat.le_trans HB1.out.size HB.out.size)
end Go.Proofs.YticmnfmijdgmbaaGreatDoor
