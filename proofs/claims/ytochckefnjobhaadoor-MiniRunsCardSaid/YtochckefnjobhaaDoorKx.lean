/- MiniRuns: the walk. -/
import Derived.Test.YtochckefnjobhaaDoorKs
namespace Go.Proofs.YtochckefnjobhaaDoor
open Go Go.RowKit Go.Lib
open X5 (Aut)
set_option linter.unusedVariables false
set_option linter.unusedSimpArgs false

theorem boxed (w : World) (dd : Array Value) : ∃ w', w.alloc (.cells dd 30) = w' ∧ Bxx w.heap.size dd w' ∧ Below w.heap.size w w' :=
  ⟨_, rfl, new_block _ _, (Below.refl _ _).alloc (Nat.le_refl _) _⟩
theorem dvz_256 : dvz[256]? = some (.slice none 0 0) := by
  kernel_rfl

set_option maxRecDepth 100000 in
set_option maxHeartbeats 16000000 in
theorem runs_walk {D : Aut} {d0 : Array Value} (s : ByteArray) (w : World) (hL : Lies D d0 w) (hs : s.size ≤ maxLen) {Bt : Nat} (ht : Tab Bt w) (hBt : Bt ≤ w.heap.size) :
    Calls Tryd.prog 7 #[.agg d0, .string s] w fun e w' => e = .returned (.bool true) ∧ Below w.heap.size w w' := by
  unfold maxLen at hs
  obtain ⟨wa, ea, hxa, hba⟩ := boxed w d0
  have HL := hid (hL.below hba)
  have HX := hid hxa
  have HB := hid hba
  have K := hid (works06 wa (ht.on (hba.mono hBt)) (Nat.le_trans hBt hba.size))
  obtain ⟨h11, h12, h13, h14⟩ := hL.sz
  have HD := hid (And.intro h11 (And.intro h12 (And.intro h13 h14)))
  clear hL ht hxa hba h11 h12 h13 h14
  go_enter Tryd.func7, Tryd.ntmps7
  go_wp2_with fail
  refine K.out.mono ?_
  rintro e w1 ⟨rfl, hb⟩
  clear K ea
  have HB1 := hid (HB.out.trans (hb.mono HB.out.size))
  have HL := hid (HL.out.below hb)
  have HX := hid (HX.out.below hb)
  have K := hid (little_at HL.out)
  clear hb
  go_wp2_with fail
  refine wp_load30' (.tmp 2) rfl w.heap.size rfl d0 HX.out HD.out.1 ?_
  go_wp2_with fail
  refine K.out.mono ?_
  rintro e w2 ⟨b, rfl, hbl, hb⟩
  clear K
  have HB2 := hid (HB1.out.trans (hb.mono HB1.out.size))
  have HL := hid (HL.out.below hb)
  have HX := hid (HX.out.below hb)
  clear hb
  cases b with
  | false =>
    clear hbl
    go_wp2_with fail
    go_ret
    exact ⟨rfl, HB2.out⟩
  | true =>
    have HF := hid (X6.Lit.few (hbl.1 rfl))
    clear hbl
    by_cases h40 : (40 : Int) < (s.size : Int)
    · go_wp2_with fail
      go_ret
      exact ⟨rfl, HB2.out⟩
    · by_cases hv : X6.Vd D
      · have HV := hid hv
        have K := hid (least_yes HL.out HF.out hv)
        clear hv
        go_wp2_with fail
        refine wp_load30' (.tmp 2) rfl w.heap.size rfl d0 HX.out HD.out.1 ?_
        go_wp2_with fail
        refine K.out.mono ?_
        rintro e w3 ⟨M, dm, rfl, hm, hil, hb⟩
        clear K
        have HB3 := hid (HB2.out.trans (hb.mono HB2.out.size))
        have HM := hid hm.sz
        have HI := hid hil
        obtain ⟨w4, e4, hx4, hb4, hs4⟩ := kept_new w3 dm
        have hbb := hb.trans (hb4.mono hb.size)
        have HB4 := hid (HB3.out.trans (hb4.mono HB3.out.size))
        have HL := hid (HL.out.below hbb)
        have HX := hid (HX.out.below hbb)
        have HLM := hid (hm.below hb4)
        have HXM := hid hx4
        have HN := hid (new_block w3 (.cells dvz 30))
        have HVM := hid (hil.vd HV.out)
        have HFM := hid (hil.small HV.out HF.out)
        have K := hid (least_yes HLM.out HFM.out HVM.out)
        clear hb hm hil hx4 hb4 hs4 hbb
        go_wp2_with (first | (with_reducible refine wpList_made30 rfl rfl ?_) | (with_reducible refine wpList_store30 rfl (.tmp 7) (.tmp 27) rfl w3.heap.size rfl dvz dm HN.out rfl dvz_size HM.out.1 HM.out.2.1 ?_))
        refine wp_load30' (.tmp 7) rfl w3.heap.size rfl dm HXM.out HM.out.1 ?_
        go_wp2_with fail
        clear e4
        refine K.out.mono ?_
        rintro e w5 ⟨N, dn, rfl, hm, hil, hb⟩
        clear K
        obtain rfl := X6.IsL.again HV.out HI.out hil
        have HB5 := hid (HB4.out.trans (hb.mono HB4.out.size))
        have HM2 := hid hm.sz
        obtain ⟨w6, e6, hx6, hb6, hs6⟩ := kept_new w5 dn
        have hbb := hb.trans (hb6.mono hb.size)
        have HB6 := hid (HB5.out.trans (hb6.mono HB5.out.size))
        have HL := hid (HL.out.below hbb)
        have HX := hid (HX.out.below hbb)
        have HLM := hid (HLM.out.below hbb)
        have HXM := hid (HXM.out.below hbb)
        have HLN := hid (hm.below hb6)
        have HXN := hid hx6
        have HN5 := hid (new_block w5 (.cells dvz 30))
        clear hb hm hil hx6 hb6 hs6 hbb
        go_wp2_with (first | (with_reducible refine wpList_made30 rfl rfl ?_) | (with_reducible refine wpList_store30 rfl (.tmp 9) (.tmp 46) rfl w5.heap.size rfl dvz dn HN5.out rfl dvz_size HM2.out.1 HM2.out.2.1 ?_))
        clear e6
        obtain ⟨o7, c7, h7⟩ := HM.out.2.2.1
        obtain ⟨o2, c2, h2⟩ := HD.out.2.2.1
        have C7 : Hid (∀ w', Below w6.heap.size w6 w' → w'.cell? ⟨w3.heap.size, 256, none⟩ = some (.slice o7 N.next.length c7)) := hid fun w' hC => (Lib.cell_of_heap (HXM.out.below hC) 256).trans h7
        have C2 : Hid (∀ w', Below w6.heap.size w6 w' → w'.cell? ⟨w.heap.size, 256, none⟩ = some (.slice o2 D.next.length c2)) := hid fun w' hC => (Lib.cell_of_heap (HX.out.below hC) 256).trans h2
        have gle : (N.next.length : Int) ≤ (D.next.length : Int) := by have := HI.out.few HV.out; omega
        have KV : Hid (∀ w', Below w6.heap.size w6 w' → Calls Tryd.prog 14 #[.agg dm] w' fun e w'' => e = .returned (.bool true) ∧ Below w'.heap.size w' w'') := hid fun w' hC => valid_yes (HLM.out.below hC) HFM.out HVM.out
        have KS : Hid (∀ w', Below w6.heap.size w6 w' → Calls Tryd.prog 22 #[.agg dm, .agg dn] w' fun e w'' => e = .returned (.bool true) ∧ Below w'.heap.size w' w'') := hid fun w' hC => same_at (HLM.out.below hC) (HLN.out.below hC)
        have hrun := HI.out.run HV.out HD.out.2.2.2 (LL s)
        obtain ⟨r, hr⟩ : ∃ r, X5.runX D (LL s) = r := ⟨_, rfl⟩
        have KM : Hid (∀ w', Below w6.heap.size w6 w' → Calls Tryd.prog 15 #[.agg dm, .string s] w' fun e w'' => e = .returned (.int .u64 (r : Int)) ∧ Below w'.heap.size w' w'') := hid fun w' hC => by
          have := run_at (HLM.out.below hC) s (by omega)
          rw [hrun, hr] at this
          exact this
        have KD : Hid (∀ w', Below w6.heap.size w6 w' → Calls Tryd.prog 15 #[.agg d0, .string s] w' fun e w'' => e = .returned (.int .u64 (r : Int)) ∧ Below w'.heap.size w' w'') := hid fun w' hC => by
          have := run_at (HL.out.below hC) s (by omega)
          rw [hr] at this
          exact this
        have hcls := HI.out.cls
        obtain ⟨cv, hcv⟩ : ∃ cv, ivs D.cls = cv := ⟨_, rfl⟩
        have hE : ∀ w', (Op.equalIn 10000 26 (.agg cv) (.agg cv)).run Tryd.prog w' = .ok true w' := fun w' => by
          rw [eql26 D.cls D.cls HD.out.2.2.2 HD.out.2.2.2 cv cv hcv hcv w', decide_eq_true rfl]
        have Q7 : Hid (∀ w', Below w6.heap.size w6 w' → ∀ {o : Oper} {a : Act} {C : World → Prop} (p : Operand), o.op = .load 26 p → a.eval p = .pointer (some ⟨w3.heap.size, 0, none⟩) → o.quietAt Tryd.prog a C w' (.agg cv)) := hid fun w' hC o a C p h1 h2 => by
          have := quiet_load26 (C := C) p h1 w3.heap.size h2 dm hC HLM.out HXM.out
          rw [hcls, hcv] at this
          exact this
        have Q2 : Hid (∀ w', Below w6.heap.size w6 w' → ∀ {o : Oper} {a : Act} {C : World → Prop} (p : Operand), o.op = .load 26 p → a.eval p = .pointer (some ⟨w.heap.size, 0, none⟩) → o.quietAt Tryd.prog a C w' (.agg cv)) := hid fun w' hC o a C p h1 h2 => by
          have := quiet_load26 (C := C) p h1 w.heap.size h2 d0 hC HL.out HX.out
          rw [hcv] at this
          exact this
        clear h7 h2 hrun hr hcls hcv
        generalize D.next.length = n at *
        generalize N.next.length = m at *
        have gle2 : decide ((m : Int) ≤ (n : Int)) = true := by simpa using gle
        refine wp_region_below (by kernel_rfl) (by kernel_rfl) ?_
        repeat (first
          | (refine BigFrame.wpQuiet_skip (by rfl) ?_; try simp only [Act.put, List.setIfInBounds_toArray, List.set_cons_zero, List.set_cons_succ])
          | (refine BigFrame.wpQuiet_want (by rfl) (fun K hK => ?_)
             apply Exists.intro
             refine ⟨fun w' hC => ?_, hK _ ?_⟩
             · first
                | exact quiet_load30 (.tmp 7) rfl w3.heap.size rfl dm hC HXM.out HM.out.1
                | exact quiet_load30 (.tmp 2) rfl w.heap.size rfl d0 hC HX.out HD.out.1
                | exact quiet_load30 (.tmp 9) rfl w5.heap.size rfl dn hC HXN.out HM2.out.1
                | exact Q7.out w' hC (.tmp 81) rfl rfl
                | exact Q2.out w' hC (.tmp 83) rfl rfl
                | (have c7' := C7.out w' hC
                   have c2' := C2.out w' hC
                   unfold Oper.quietAt
                   go_simp
                   first
                     | with_reducible rfl
                     | done
                     | with_reducible exact below_call hC (Nat.le_refl _) (KV.out w' hC)
                     | with_reducible exact below_call hC (Nat.le_refl _) (KS.out w' hC)
                     | with_reducible exact below_call hC (Nat.le_refl _) (KM.out w' hC)
                     | with_reducible exact below_call hC (Nat.le_refl _) (KD.out w' hC))
             clear hK K
             try simp only [Act.put, List.setIfInBounds_toArray, List.set_cons_zero, List.set_cons_succ]))

        refine wpQuiet_nil ?_
        intro w' hb
        have HB7 := hid (HB6.out.trans (hb.mono HB6.out.size))
        clear hb
        go_wp2_with fail
        go_ret
        exact ⟨rfl, HB7.out⟩
      · have HV := hid hv
        have K := hid (least_no HL.out HF.out hv)
        clear hv
        go_wp2_with fail
        refine wp_load30' (.tmp 2) rfl w.heap.size rfl d0 HX.out HD.out.1 ?_
        go_wp2_with fail
        refine K.out.mono ?_
        rintro e w3 ⟨rfl, hb⟩
        clear K
        have HB3 := hid (HB2.out.trans (hb.mono HB2.out.size))
        obtain ⟨w4, e4, hx4, hb4, hs4⟩ := kept_new w3 dvz
        have hbb := hb.trans (hb4.mono hb.size)
        have HB4 := hid (HB3.out.trans (hb4.mono HB3.out.size))
        have HL := hid (HL.out.below hbb)
        have HX := hid (HX.out.below hbb)
        have HN := hid (new_block w3 (.cells dvz 30))
        have HXM := hid hx4
        have K := hid (valid_no HL.out HF.out HV.out)
        clear hb hx4 hb4 hs4 hbb
        go_wp2_with (first | (with_reducible refine wpList_made30 rfl rfl ?_) | (with_reducible refine wpList_store30 rfl (.tmp 7) (.tmp 27) rfl w3.heap.size rfl dvz dvz HN.out rfl dvz_size dvz_size dvz_one ?_))
        refine wp_load30' (.tmp 2) rfl w.heap.size rfl d0 HX.out HD.out.1 ?_
        go_wp2_with fail
        clear e4
        refine K.out.mono ?_
        rintro e w5 ⟨rfl, hb⟩
        clear K
        have HB5 := hid (HB4.out.trans (hb.mono HB4.out.size))
        have c1 : w5.cell? ⟨w3.heap.size, 256, none⟩ = some (.slice none 0 0) := (Lib.cell_of_heap (HXM.out.below hb) 256).trans dvz_256
        clear hb
        go_wp2_with fail
        go_ret
        exact ⟨rfl, HB5.out⟩
end Go.Proofs.YtochckefnjobhaaDoor
