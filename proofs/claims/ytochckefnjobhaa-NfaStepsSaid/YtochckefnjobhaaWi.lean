/- The law NfaSteps of package nfa: its walk. -/
import Derived.Test.YtochckefnjobhaaXz
import Derived.Deep.QuietTactic
import Derived.BigQuiet
import Derived.IntWalk
namespace Go.Proofs.Ytochckefnjobhaa
open Go Go.RowKit Go.Lib
open X3 (RX Pl)
set_option linter.unusedVariables false
set_option linter.unusedSimpArgs false

theorem sizes_most : ∀ (L : List RX), (∀ k (hk : k < L.length), L[k].size ≤ 1000000) → X3.sizeL L ≤ L.length * 1000000
  | [], _ => by simp [X3.sizeL]
  | r :: L, h => by
    have h0 := h 0 (by simp)
    have h1 := sizes_most L fun k hk => h (k + 1) (by simpa using hk)
    rw [X3.sizeL, List.length_cons, Nat.add_mul]
    simp only [List.getElem_cons_zero] at h0
    omega
theorem row_sl {w : World} {B n size : Nat} {e : TypeId} {v : Value} {xs : List Value} (h : w.ownsRow B e size v n xs) : ∃ o c, v = .slice o n c := by
  rcases h.2 with ⟨rfl, h0⟩ | ⟨g, cap, cur, rfl, _⟩
  · rw [h0]; exact ⟨_, _, rfl⟩
  · exact ⟨_, _, rfl⟩
theorem row_base {w : World} {B B' n size : Nat} {e : TypeId} {v : Value} {xs : List Value} (h : w.ownsRow B e size v n xs) (hB : B' ≤ B) : w.ownsRow B' e size v n xs :=
  ⟨h.1, h.2.imp id fun ⟨g, cap, cur, e1, e2, e3⟩ => ⟨g, cap, cur, e1, Nat.le_trans hB e2, e3⟩⟩
theorem row_in {w : World} {B n size : Nat} {e : TypeId} {v : Value} {xs : List Value} (h : w.ownsRow B e size v n xs) : ∀ g, v.ownBlock = some g → B ≤ g ∧ g < w.heap.size := by
  intro g hg
  rcases h.2 with ⟨rfl, _⟩ | ⟨g', cap, cur, rfl, hB, hh, _⟩
  · cases hg
  · injection hg with hg; subst hg; exact ⟨hB, (Array.getElem?_eq_some_iff.1 hh).1⟩

theorem NumsAt.at_ {w : World} {o : Option Addr} {n c : Nat} {l : List Int} (h : NumsAt w (.slice o n c) l) (j : Nat) (hj : j < l.length) : ∃ b off, o = some ⟨b, off, none⟩ ∧ b < w.heap.size ∧ w.cell? ⟨b, off + j, none⟩ = some (.int .i64 l[j]) := by
  obtain ⟨o', c', e, hc⟩ := h.sh
  injection e with e1 e2 e3
  rw [e1]
  exact hc j hj
theorem same_below {P : Program} {f : FuncId} {args : Array Value} {w : World} {v : Value} (h : Calls P f args w fun e w' => e = .returned v ∧ w' = w) : Calls P f args w fun e w' => e = .returned v ∧ Below w.heap.size w w' :=
  h.mono fun _ _ ⟨he, hw⟩ => ⟨he, by rw [hw]; exact Below.refl _ _⟩

set_option maxRecDepth 100000 in
set_option maxHeartbeats 16000000 in
theorem steps_walk (l : List ByteArray) (s : ByteArray) (od : List Int) (w : World) (v v2 : Value) (h : TextsAt w v l) (h2 : NumsAt w v2 od) (hs : s.size ≤ maxLen) : Calls Try.prog 4 #[v, .string s, v2] w fun e w' => e = .returned (.bool true) ∧ Below w.heap.size w w' := by
  obtain ⟨oo, oc, rfl, _⟩ := h2.sh
  have HT := hid h
  have HU := hid h2
  have hol := h2.ln
  unfold maxLen at hol
  clear h h2
  go_enter Try.func4, Try.ntmps4
  go_wp2_with fail
  refine (works _).mono ?_
  rintro e w1 ⟨rfl, hb1⟩
  have HT1 := hid (HT.out.below hb1)
  have HU1 := hid (HU.out.below hb1)
  have HB1 := hid hb1
  have KO := hid (over_any l w1 v HT1.out)
  clear hb1
  go_wp2_with fail
  refine KO.out.mono ?_
  rintro e w9 ⟨rfl, rfl⟩
  cases hov : overB l with
  | true =>
    go_wp2_with fail
    go_ret
    exact ⟨rfl, HB1.out⟩
  | false =>
    have hl8 := over_few hov
    clear hov
    by_cases hs40 : (40 : Int) < (s.size : Int)
    · go_wp2_with fail
      go_ret
      exact ⟨rfl, HB1.out⟩
    by_cases ho40 : (40 : Int) < (od.length : Int)
    · go_wp2_with fail
      go_ret
      exact ⟨rfl, HB1.out⟩
    have KP := hid (parsed_any l w9 v HT1.out (by omega))
    go_wp2_with fail
    refine KP.out.mono ?_
    rintro e w2 ⟨rv, rfl, hrow, hb2⟩
    have hlen : (treesOf l).length ≤ 8 := Nat.le_trans (List.length_filterMap_le _ _) hl8
    have HSZ := hid (trees_size l)
    have HL := hid (RowR.ofRow hrow)
    have HU2 := hid (HU1.out.below hb2)
    have HB2 := hid (HB1.out.trans (hb2.mono HB1.out.size))
    obtain ⟨vo, vc, rfl⟩ := HL.out.shape
    generalize treesOf l = L at *
    have KB := hid (build_any _ _ w2 _ HL.out (fun g hg => hg) HSZ.out (by omega))
    clear hrow hb2
    go_wp2_with fail
    refine KB.out.mono ?_
    rintro e w3 ⟨hb3, hP⟩
    have HB3 := hid (HB2.out.trans (hb3.mono HB2.out.size))
    have HL3 := hid (HL.out.below hb3)
    have HU3 := hid (HU2.out.below hb3)
    have KS := hid (sizes_any L w3 _ HL3.out HSZ.out (by have := sizes_most L HSZ.out; omega))
    clear hb3
    rcases hP with ⟨hm, rfl⟩ | ⟨hnm, m, T, pv, AS, bv, A0, rfl, hN⟩
    · have h3 : (3000 : Int) < (X3.sizeL L : Int) := by rcases hm with h | h <;> omega
      clear hm
      go_wp2_with fail
      refine KS.out.mono ?_
      rintro e w4 ⟨rfl, hb4⟩
      have HB4 := hid (HB3.out.trans (hb4.mono HB3.out.size))
      clear hb4
      go_wp2_with fail
      go_ret
      exact ⟨rfl, HB4.out⟩
    · have h3 : ¬ (3000 : Int) < (X3.sizeL L : Int) := fun h => hnm (.inr (by omega))
      have HN := hid hN
      clear hN hnm
      go_wp2_with fail
      refine KS.out.mono ?_
      rintro e w4 ⟨rfl, hb4⟩
      have HB4 := hid (HB3.out.trans (hb4.mono HB3.out.size))
      have HN4 := hid (HN.out.below hb4)
      have HU4 := hid (HU3.out.below hb4)
      have KG := hid (begin_any HN4.out)
      clear hb4
      go_wp2_with fail
      refine KG.out.mono ?_
      rintro e w5 ⟨v0, rfl, hr0, _, hb5⟩
      have HB5 := hid (HB4.out.trans (hb5.mono HB4.out.size))
      have HN5 := hid (HN4.out.below hb5)
      have HU5 := hid (HU4.out.below hb5)
      have HR0 := hid hr0
      clear hr0 hb5
      go_wp2_with fail
      go_loopw [11, 12, 13] (fun t11 t12 t13 wr => ∃ (k : Nat) (A : List Nat), k ≤ s.size ∧ t12 = .int .i64 (k : Int) ∧ Hid (AtN L ((LL s).take k) A) ∧ Hid (wr.ownsRow 0 3 1 t11 A.length (ints A)) ∧ Below w5.heap.size w5 wr) (fun _ t12 _ _ => s.size - (RowKit.intOf t12).toNat)
      case atStart => exact ⟨0, A0, Nat.zero_le _, rfl, hid (by rw [List.take_zero]; exact HN.out.at_), hid (row_base HR0.out (Nat.zero_le _)), Below.refl _ _⟩
      case round =>
        obtain ⟨k, A, hk, rfl, HA, HRk, hB⟩ := hrel
        have HNk := hid (HN5.out.below hB)
        have HBk := hid hB
        have hsz := hB.size
        clear hB
        by_cases hlt : k < s.size
        · have h1 : (k : Int) < (s.size : Int) := by omega
          have h2 : (0 : Int) ≤ (k : Int) := by omega
          have HRR := hid (at_tags HNk.out HA.out)
          generalize tagsZ T (X4.mk L 0 [] []).2.1.length (A.map fun (q : Nat) => (q : Int)) = R at *
          have hx1 : (s.extract 0 k).size < 9223372036854775808 := by simp; omega
          have HX1 := hid hx1
          have HRX := hid (show RunR L (LL (s.extract 0 k)) R by rw [ll_extract hk]; exact HRR.out)
          clear hx1
          go_upto_region 16 with fail
          refine wp_region_below (by kernel_rfl) (by kernel_rfl) ?_
          repeat (first
            | (refine BigFrame.wpQuiet_skip (by rfl) ?_; try simp only [Act.put, List.setIfInBounds_toArray, List.set_cons_zero, List.set_cons_succ])
            | (refine BigFrame.wpQuiet_want (by rfl) (fun K hK => ?_)
               apply Exists.intro
               refine ⟨fun w' hC => ?_, hK _ ?_⟩
               · skip
                 unfold Oper.quietAt
                 go_simp
                 first
                   | with_reducible rfl
                   | done
                   | exact below_call hC (Nat.le_refl _) (same_below (tags_is (HNk.out.below hC) HA.out (owns_kept HRk.out fun g hg => hC.block g (row_in HRk.out g hg).2) HRR.out))
                   | exact below_call hC (Nat.le_refl _) (run_is (HNk.out.below hC) (s.extract 0 k) HX1.out HRX.out)
               clear hK K
               try simp only [Act.put, List.setIfInBounds_toArray, List.set_cons_zero, List.set_cons_succ]))
          refine wpQuiet_nil ?_
          intro w6 hb
          have HB6 := hid (HBk.out.trans (hb.mono hsz))
          have HN6 := hid (HNk.out.below hb)
          have HR6 := hid (owns_kept HRk.out fun g hg => hb.block g (row_in HRk.out g hg).2)
          have ks := hid (step_at HN6.out HA.out HR6.out (s[k]'hlt))
          clear hb
          go_wp2_with fail
          refine ks.out.mono ?_
          rintro e w7 ⟨v7, A', rfl, hA', hr', hn', hb'⟩
          have HA' := hid (show AtN L ((LL s).take (k + 1)) A' by rw [ll_next hlt]; exact hA')
          have HR' := hid hr'
          have HB' := hid (HB6.out.trans (hb'.mono HB6.out.size))
          have HP' := hid hA'.1
          have hlA : A'.length ≤ 1000000 := by
            have h1 := At.len hA' HN6.out.mw.tl
            have h2 := len_mu (X4.mk L 0 [] []).2.1
            have h3 := HN6.out.mu
            omega
          obtain ⟨ao, ac, rfl⟩ := row_sl hr'
          clear hA' hr' hn' hb'
          go_wp2_with fail
          go_loopw [13] (fun t13 wq => ∃ j : Nat, 1 ≤ j ∧ (j ≤ A'.length ∨ j = 1) ∧ t13 = .int .i64 (j : Int) ∧ Below w7.heap.size w7 wq) (fun t13 _ => A'.length - (RowKit.intOf t13).toNat)
          case atStart => exact ⟨1, Nat.le_refl _, .inr rfl, rfl, Below.refl _ _⟩
          case round =>
            obtain ⟨j, hj1, hj2, rfl, hBq⟩ := hrel
            have HBq := hid hBq
            have hszq := hBq.size
            clear hBq
            by_cases hjl : j < A'.length
            · obtain ⟨i, hi⟩ : ∃ i, j = i + 1 := ⟨j - 1, by omega⟩
              have hag : ∃ g, ao = some ⟨g, 0, none⟩ := by
                rcases HR'.out.2 with ⟨h, h0⟩ | ⟨g, cap, cur, h, _⟩
                · omega
                · injection h with h1; exact ⟨g, h1⟩
              obtain ⟨ag, rfl⟩ := hag
              have hRq := owns_kept HR'.out fun g hg => HBq.out.block g (row_in HR'.out g hg).2
              have hgl : ag < wr.heap.size := (row_in hRq ag rfl).2
              obtain ⟨za, hza⟩ : ∃ za : Int, za = (A'[i]'(by omega) : Nat) := ⟨_, rfl⟩
              obtain ⟨zb, hzb⟩ : ∃ zb : Int, zb = (A'[j] : Nat) := ⟨_, rfl⟩
              have hc1 : wr.cell? ⟨ag, i, none⟩ = some (.int .i64 za) := by
                rw [hRq.cellAt i (by omega), hza]
                have : i < A'.length := by omega
                simp [ints, this]
              have hc2 : wr.cell? ⟨ag, j, none⟩ = some (.int .i64 zb) := by
                rw [hRq.cellAt j (by omega), hzb]
                simp [ints, hjl]
              have hab : za < zb := by
                have := List.pairwise_iff_getElem.1 HP'.out i j (by omega) hjl (by omega)
                omega
              have h4 : ¬ zb ≤ za := by omega
              have h5 : decide (zb ≤ za) = false := by simpa using hab
              have h6 : (j : Int) < (A'.length : Int) := by omega
              have h7 : (0 : Int) ≤ (i : Int) := by omega
              have h8 : (0 : Int) ≤ (j : Int) := by omega
              have h9 : (i : Int) < (A'.length : Int) := by omega
              have hw1 : IntKind.i64.wrap ((j : Int) - 1) = (i : Int) := by rw [IntWalk.i64_in _ (by omega)]; omega
              have HI := hid hi
              clear hi hza hzb hRq hab
              go_upto_region 22 with fail
              go_quiet (fail)
              go_wp2_with fail
              refine ⟨⟨j + 1, by omega, .inl (by omega), rfl, below_drewN HBq.out _⟩, ?_⟩
              show A'.length - ((j : Int) + 1).toNat < A'.length - ((j : Int)).toNat
              omega
            · have h6 : ¬ (j : Int) < (A'.length : Int) := by omega
              have HRq := hid (owns_kept HR'.out fun g hg => HBq.out.block g (row_in HR'.out g hg).2)
              go_wp2_with fail
              refine ⟨⟨k + 1, A', by omega, rfl, HA', hid (row_base HRq.out (Nat.zero_le _)), HB'.out.trans (HBq.out.mono HB'.out.size)⟩, ?_⟩
              show s.size - ((k : Int) + 1).toNat < s.size - ((k : Int)).toNat
              omega
        · have h1 : ¬ (k : Int) < (s.size : Int) := by omega
          obtain rfl : k = s.size := by omega
          have htk : (LL s).take s.size = LL s := List.take_of_length_le (by rw [Array.length_toList]; exact Nat.le_refl _)
          rw [htk] at HA
          clear htk
          have HRR := hid (at_tags HNk.out HA.out)
          have hPl : (X4.mk L 0 [] []).2.1.length ≤ 100000 := by
            have h2 := len_mu (X4.mk L 0 [] []).2.1
            have h3 := HNk.out.mu
            omega
          have hlA : A.length ≤ 100000 := by
            have h1 := At.len HA.out HNk.out.mw.tl
            omega
          have HU6 := hid (HU5.out.below HBk.out)
          obtain ⟨ao, ac, rfl⟩ := row_sl HRk.out
          obtain ⟨j0, hj, hk0, hk1, hk2⟩ := info_parts info3
          have HSrc := hid (owns_src HRk.out)
          have HNil := hid (World.ownsRow_nil wr wr.heap.size 3 1)
          have HOne := hid (show ∀ u ∈ ints A, u.oneCell' = true from fun u hu => by
            obtain ⟨q, _, rfl⟩ := List.mem_map.1 hu
            rfl)
          go_wp2_with (at_builtin; refine wpList_append_src rfl (.tmp 92) (.tmp 93) 39 rfl wr.heap.size 3 j0 (.int .i64 0) 1 8 Try.underlying39 hj hk0 hk1 hk2 rfl (by decide) (.slice none 0 0) 0 [] rfl HNil.out (.slice ao A.length ac) A.length (ints A) rfl HSrc.out (by simp [ints]) HOne.out ?c1 ?c2 ?c3 ?_)
          case c1 => unfold maxLen; omega
          case c2 => omega
          try (case c3 => exact Nat.le_refl _)
          intro v4 w6 hown hgrow hat
          have HF6 := hid (show w6.ownsRow wr.heap.size 3 1 v4 ((A.map fun (q : Nat) => (q : Int)) ++ (od.take 0).filter oddZ).length (zs ((A.map fun (q : Nat) => (q : Int)) ++ (od.take 0).filter oddZ)) by
            rw [List.take_zero, List.filter_nil, List.append_nil, List.length_map, ← ints_zs]
            simpa using hown)
          have HB6 := hid (show Below wr.heap.size wr w6 from (Below.refl _ _).grown hgrow (Nat.le_refl _) (fun q hq => by cases hq))
          clear hown hgrow hat
          go_wp2_with fail
          have hszw := HB6.out.size
          go_loopw [14, 15] (fun t14 t15 wq => ∃ j : Nat, j ≤ od.length ∧ t15 = .int .i64 (j : Int) ∧ Hid (wq.ownsRow wr.heap.size 3 1 t14 ((A.map fun (q : Nat) => (q : Int)) ++ (od.take j).filter oddZ).length (zs ((A.map fun (q : Nat) => (q : Int)) ++ (od.take j).filter oddZ))) ∧ Below wr.heap.size wr wq) (fun _ t15 _ => od.length - (RowKit.intOf t15).toNat)
          case atStart => exact ⟨0, Nat.zero_le _, rfl, HF6, HB6.out⟩
          case round =>
            obtain ⟨j, hjl, rfl, HF, hB⟩ := hrel
            have HBj := hid hB
            have hszj := hB.size
            clear hB
            by_cases hlt : j < od.length
            · obtain ⟨b, off, rfl, hbl, hc0⟩ := HU6.out.at_ j hlt
              have hc := (World.cell?_of_block (a := ⟨b, off + j, none⟩) (HBj.out.block b hbl)).trans hc0
              have h5 : (j : Int) < (od.length : Int) := by omega
              have h6 : (0 : Int) ≤ (j : Int) := by omega
              have hst : (A.map fun (q : Nat) => (q : Int)) ++ (od.take (j + 1)).filter oddZ = ((A.map fun (q : Nat) => (q : Int)) ++ (od.take j).filter oddZ) ++ if oddZ od[j] then [od[j]] else [] := by
                rw [odd_take hlt, List.append_assoc]
              have hlf : ((A.map fun (q : Nat) => (q : Int)) ++ (od.take j).filter oddZ).length ≤ 100040 := by
                have := List.length_filter_le oddZ (od.take j)
                simp at this ⊢
                omega
              have HST := hid hst
              clear hst hc0
              generalize od[j] = z at *
              generalize (A.map fun (q : Nat) => (q : Int)) ++ (od.take j).filter oddZ = F at *
              by_cases hz0 : z < 0
              · rw [if_pos (by simp [oddZ, hz0])] at HST
                obtain ⟨wq, eq⟩ : ∃ wq, wr.alloc (.cells #[.int .i64 z] 3) = wq := ⟨_, rfl⟩
                have hbq : Below wr.heap.size wr wq := by rw [← eq]; exact (Below.refl _ _).alloc (Nat.le_refl _) _
                have hnq : wq.heap[wr.heap.size]? = some (.cells #[.int .i64 z] 3 (0, 0)) := by rw [← eq]; exact new_block _ _
                have hsq : wr.heap.size < wq.heap.size := by rw [← eq]; simp
                have HFq := hid (owns_kept HF.out fun g hg => hbq.block g (row_in HF.out g hg).2)
                have HBq := hid (HBj.out.trans (hbq.mono hszj))
                have hdq := Nat.le_trans hszj (Nat.le_of_lt hsq)
                clear hbq
                go_wp2_with (at_builtin; refine wpList_append_own_at _ rfl (.tmp 113) (.tmp 118) 39 rfl _ 3 j0 (.int .i64 0) 1 8 Try.underlying39 hj hk0 hk1 hk2 rfl (by decide) _ F.length (zs F) rfl HFq.out ⟨wr.heap.size, 0, none⟩ 1 1 [.int .i64 z] rfl rfl ?_ ?_ ?_ ?_ ?_ ?_)
                · intro j v hj
                  have := Lib.cell_of_heap hnq j
                  first | rw [show (⟨wr.heap.size, 0, none⟩ : Addr).add j = ⟨wr.heap.size, j, none⟩ by simp [Addr.add]; omega] | skip
                  rw [this, ← hj]
                  simp
                · first | (intro v hv; simp at hv; rcases hv with rfl; rfl) | rfl | simp [Value.oneCell']
                · unfold maxLen; omega
                · omega
                try exact hdq
                intro v7 w7 hown7 hgrow7 hnil7 hat7
                have HF7 := hid (show w7.ownsRow _ 3 1 v7 (F ++ [z]).length (zs (F ++ [z])) from by
                  rw [List.length_append]; unfold zs; rw [List.map_append]; simpa using hown7)
                have HB7 := hid (HBq.out.grown hgrow7 hdq (fun q hq => (row_in HFq.out q hq).1))
                rw [← HST.out] at HF7
                clear hown7 hgrow7 hnil7 hat7 hnq eq
                go_wp2_with fail
                refine ⟨⟨j + 1, by omega, rfl, HF7, HB7.out⟩, ?_⟩
                show od.length - ((j : Int) + 1).toNat < od.length - ((j : Int)).toNat
                omega
              · by_cases hz1 : (1073741824 : Int) < z
                · rw [if_pos (by simp [oddZ, hz1])] at HST
                  obtain ⟨wq, eq⟩ : ∃ wq, wr.alloc (.cells #[.int .i64 z] 3) = wq := ⟨_, rfl⟩
                  have hbq : Below wr.heap.size wr wq := by rw [← eq]; exact (Below.refl _ _).alloc (Nat.le_refl _) _
                  have hnq : wq.heap[wr.heap.size]? = some (.cells #[.int .i64 z] 3 (0, 0)) := by rw [← eq]; exact new_block _ _
                  have hsq : wr.heap.size < wq.heap.size := by rw [← eq]; simp
                  have HFq := hid (owns_kept HF.out fun g hg => hbq.block g (row_in HF.out g hg).2)
                  have HBq := hid (HBj.out.trans (hbq.mono hszj))
                  have hdq := Nat.le_trans hszj (Nat.le_of_lt hsq)
                  clear hbq
                  go_wp2_with (at_builtin; refine wpList_append_own_at _ rfl (.tmp 113) (.tmp 118) 39 rfl _ 3 j0 (.int .i64 0) 1 8 Try.underlying39 hj hk0 hk1 hk2 rfl (by decide) _ F.length (zs F) rfl HFq.out ⟨wr.heap.size, 0, none⟩ 1 1 [.int .i64 z] rfl rfl ?_ ?_ ?_ ?_ ?_ ?_)
                  · intro j v hj
                    have := Lib.cell_of_heap hnq j
                    first | rw [show (⟨wr.heap.size, 0, none⟩ : Addr).add j = ⟨wr.heap.size, j, none⟩ by simp [Addr.add]; omega] | skip
                    rw [this, ← hj]
                    simp
                  · first | (intro v hv; simp at hv; rcases hv with rfl; rfl) | rfl | simp [Value.oneCell']
                  · unfold maxLen; omega
                  · omega
                  try exact hdq
                  intro v7 w7 hown7 hgrow7 hnil7 hat7
                  have HF7 := hid (show w7.ownsRow _ 3 1 v7 (F ++ [z]).length (zs (F ++ [z])) from by
                    rw [List.length_append]; unfold zs; rw [List.map_append]; simpa using hown7)
                  have HB7 := hid (HBq.out.grown hgrow7 hdq (fun q hq => (row_in HFq.out q hq).1))
                  rw [← HST.out] at HF7
                  clear hown7 hgrow7 hnil7 hat7 hnq eq
                  go_wp2_with fail
                  refine ⟨⟨j + 1, by omega, rfl, HF7, HB7.out⟩, ?_⟩
                  show od.length - ((j : Int) + 1).toNat < od.length - ((j : Int)).toNat
                  omega
                · rw [if_neg (by simp [oddZ]; omega), List.append_nil] at HST
                  rw [← HST.out] at HF
                  go_wp2_with fail
                  refine ⟨⟨j + 1, by omega, rfl, HF, HBj.out⟩, ?_⟩
                  show od.length - ((j : Int) + 1).toNat < od.length - ((j : Int)).toNat
                  omega
            · have h5 : ¬ (j : Int) < (od.length : Int) := by omega
              obtain rfl : j = od.length := by omega
              rw [List.take_length] at HF
              have hlf : ((A.map fun (q : Nat) => (q : Int)) ++ od.filter oddZ).length ≤ 100040 := by
                have := List.length_filter_le oddZ od
                simp at this ⊢
                omega
              have HO := hid (show ∀ z ∈ od.filter oddZ, hasZ (X4.mk L 0 [] []).2.1.length z = false from fun z hz => odd_none (List.mem_filter.1 hz).2 (by omega))
              have HTF := hid (tags_far T (X4.mk L 0 [] []).2.1.length (A.map fun (q : Nat) => (q : Int)) (od.filter oddZ) HO.out)
              have HA2 := hid (owns_kept HRk.out fun g hg => HBj.out.block g (row_in HRk.out g hg).2)
              have HSrc2 := hid (owns_src HA2.out)
              have HL1 := hid (show (ints A).length = A.length * 1 by simp [ints])
              obtain ⟨F, eF⟩ : ∃ F, (A.map fun (q : Nat) => (q : Int)) ++ od.filter oddZ = F := ⟨_, rfl⟩
              have HEF := hid eF
              rw [eF] at HF hlf
              clear eF
              go_wp2_with (at_builtin; refine wpList_append_src rfl (.tmp 120) (.tmp 121) 39 rfl _ 3 j0 (.int .i64 0) 1 8 Try.underlying39 hj hk0 hk1 hk2 rfl (by decide) _ F.length (zs F) rfl HF.out (.slice ao A.length ac) A.length (ints A) rfl HSrc2.out HL1.out HOne.out ?d1 ?d2 ?d3 ?_)
              case d1 => unfold maxLen; omega
              case d2 => omega
              try (case d3 => exact hszj)
              intro v7 w7 hown7 hgrow7 hat7
              have HB7 := hid (HBj.out.grown hgrow7 hszj (fun q hq => (row_in HF.out q hq).1))
              have HF7 := hid (show w7.ownsRow _ 3 1 v7 (F ++ A.map fun (q : Nat) => (q : Int)).length (zs (F ++ A.map fun (q : Nat) => (q : Int))) from by
                rw [List.length_append, List.length_map]; unfold zs; rw [List.map_append]; rw [ints_zs] at hown7; exact hown7)
              have HA7 := hid (owns_kept HRk.out fun g hg => HB7.out.block g (row_in HRk.out g hg).2)
              have HN7 := hid (HNk.out.below HB7.out)
              have hF2 : (F ++ A.map fun (q : Nat) => (q : Int)).length ≤ 200040 := by simp; omega
              have HTF7 := hid (show tagsZ T (X4.mk L 0 [] []).2.1.length (F ++ A.map fun (q : Nat) => (q : Int)) = tagsZ T (X4.mk L 0 [] []).2.1.length (A.map fun (q : Nat) => (q : Int)) by rw [← HEF.out]; exact HTF.out)
              have HMU := hid HN7.out.mu
              have K1 := hid (tags_is HN7.out HA.out HA7.out HRR.out)
              clear hown7 hgrow7 hat7
              go_wp2_with fail
              refine K1.out.mono ?_
              rintro e w8 ⟨rfl, rfl⟩
              have K2 := hid (run_is HN7.out s (by omega) HRR.out)
              go_wp2_with fail
              refine K2.out.mono ?_
              rintro e wa ⟨rfl, hba⟩
              have HNa := hid (HN7.out.below hba)
              have HAa := hid (owns_kept HA7.out fun g hg => hba.block g (row_in HA7.out g hg).2)
              have HFa := hid (owns_kept HF7.out fun g hg => hba.block g (row_in HF7.out g hg).2)
              have HBa := hid (HB7.out.trans (hba.mono HB7.out.size))
              have K3 := hid (tags_any HNa.out.mach HNa.out.mw.tb HFa.out (by omega))
              rw [HTF7.out] at K3
              clear hba
              generalize tagsZ T (X4.mk L 0 [] []).2.1.length (A.map fun (q : Nat) => (q : Int)) = R at *
              go_wp2_with fail
              refine K3.out.mono ?_
              rintro e wb ⟨rfl, rfl⟩
              have K4 := hid (run_is HNa.out s (by omega) HRR.out)
              go_wp2_with fail
              refine K4.out.mono ?_
              rintro e wc ⟨rfl, hbc⟩
              have HNc := hid (HNa.out.below hbc)
              have HAc := hid (owns_kept HAa.out fun g hg => hbc.block g (row_in HAa.out g hg).2)
              have HFc := hid (owns_kept HFa.out fun g hg => hbc.block g (row_in HFa.out g hg).2)
              have HBc := hid (HBa.out.trans (hbc.mono HBa.out.size))
              have K5 := hid (step_any HNc.out.mach HNc.out.mw (l := []) (World.ownsRow_nil wc 0 3 1) (by have := HMU.out; simp; omega) 97 (by decide))
              clear hbc
              go_wp2_with fail
              refine K5.out.mono ?_
              rintro e wd ⟨v5, A5, rfl, hC5, _, hn5, hbd⟩
              obtain rfl := hn5 (closed_none hC5 fun n ⟨p, pl, hp, _⟩ => by cases hp)
              have HNd := hid (HNc.out.below hbd)
              have HAd := hid (owns_kept HAc.out fun g hg => hbd.block g (row_in HAc.out g hg).2)
              have HFd := hid (owns_kept HFc.out fun g hg => hbd.block g (row_in HFc.out g hg).2)
              have HBd := hid (HBc.out.trans (hbd.mono HBc.out.size))
              have K6 := hid (tags_any HNd.out.mach HNd.out.mw.tb (l := []) (World.ownsRow_nil wd 0 3 1) (by decide))
              clear hC5 hn5 hbd
              go_wp2_with fail
              refine K6.out.mono ?_
              rintro e we ⟨rfl, rfl⟩
              have K7 := hid (step_any HNd.out.mach HNd.out.mw HFd.out (by have := HMU.out; omega) 97 (by decide))
              go_wp2_with fail
              refine K7.out.mono ?_
              rintro e wf ⟨v8, A8, rfl, hC8, hr8, _, hbf⟩
              have HC8 := hid hC8
              obtain ⟨fo, fc, rfl⟩ := row_sl hr8
              have HNf := hid (HNd.out.below hbf)
              have HAf := hid (owns_kept HAd.out fun g hg => hbf.block g (row_in HAd.out g hg).2)
              have HBf := hid (HBd.out.trans (hbf.mono HBd.out.size))
              have K8 := hid (step_any HNf.out.mach HNf.out.mw (l := A.map fun (q : Nat) => (q : Int)) (by rw [List.length_map, ← ints_zs]; exact HAf.out) (by have := HMU.out; rw [List.length_map]; omega) 97 (by decide))
              clear hC8 hr8 hbf
              go_wp2_with fail
              refine K8.out.mono ?_
              rintro e wg ⟨v9, A9, rfl, hC9, hr9, _, hbg⟩
              obtain ⟨go, gc, rfl⟩ := row_sl hr9
              have HBg := hid (HBf.out.trans (hbg.mono HBf.out.size))
              obtain rfl : A8 = A9 := far_step HO.out (by rw [HEF.out]; exact HC8.out) hC9
              clear hC9 hr9 hbg
              go_wp2_with fail
              go_ret
              exact ⟨rfl, HB5.out.trans ((HBk.out.trans (HBg.out.mono hsz)).mono HB5.out.size)⟩
end Go.Proofs.Ytochckefnjobhaa
