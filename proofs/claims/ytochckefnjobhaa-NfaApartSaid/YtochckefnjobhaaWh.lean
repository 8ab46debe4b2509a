/- The law NfaApart of package nfa: its walk. -/
import Derived.Test.YtochckefnjobhaaXy
import Derived.Test.YtochckefnjobhaaQl
import Derived.Test.YtochckefnjobhaaBf
import Derived.Test.YtochckefnjobhaaWt
namespace Go.Proofs.Ytochckefnjobhaa
open Go Go.RowKit Go.Lib
open X3 (RX Pl)
set_option linter.unusedVariables false
set_option linter.unusedSimpArgs false

theorem RowR.lift {S : Nat → Prop} {w : World} {v : Value} {l : List RX} (h : RowR S w v l) : RowR (fun g => g < w.heap.size) w v l :=
  ⟨h.sh.imp id fun ⟨g, cap, h1, h2, h3, h4, h5⟩ => ⟨g, cap, h1, h3, h3, h4, h5.monoS fun g _ hl => hl⟩⟩
theorem sizes_le : ∀ (L : List RX), (∀ k (hk : k < L.length), L[k].size ≤ 1000000) → X3.sizeL L ≤ L.length * 1000000
  | [], _ => by simp [X3.sizeL]
  | r :: L, h => by
    have h0 := h 0 (by simp)
    have h1 := sizes_le L fun k hk => h (k + 1) (by simpa using hk)
    rw [X3.sizeL, List.length_cons, Nat.add_mul]
    simp only [List.getElem_cons_zero] at h0
    omega
theorem upto_len (a : Nat) : (upto a 64).length ≤ 64 := upto_length a 64
theorem owns_slice {w : World} {B n size : Nat} {e : TypeId} {v : Value} {xs : List Value} (h : w.ownsRow B e size v n xs) : ∃ o c, v = .slice o n c := by
  rcases h.2 with ⟨rfl, h0⟩ | ⟨g, cap, cur, rfl, _⟩
  · rw [h0]; exact ⟨_, _, rfl⟩
  · exact ⟨_, _, rfl⟩
theorem owns_lift {w : World} {B B' n size : Nat} {e : TypeId} {v : Value} {xs : List Value} (h : w.ownsRow B e size v n xs) (hB : B' ≤ B) : w.ownsRow B' e size v n xs :=
  ⟨h.1, h.2.imp id fun ⟨g, cap, cur, e1, e2, e3⟩ => ⟨g, cap, cur, e1, Nat.le_trans hB e2, e3⟩⟩
theorem owns_in {w : World} {B n size : Nat} {e : TypeId} {v : Value} {xs : List Value} (h : w.ownsRow B e size v n xs) : ∀ g, v.ownBlock = some g → B ≤ g ∧ g < w.heap.size := by
  intro g hg
  rcases h.2 with ⟨rfl, _⟩ | ⟨g', cap, cur, rfl, hB, hh, _⟩
  · cases hg
  · injection hg with hg; subst hg; exact ⟨hB, (Array.getElem?_eq_some_iff.1 hh).1⟩
theorem apart_take (a b n k : Nat) (hk : k < (upto b 64).length) : (upto a 64 ++ ((upto b 64).take (k + 1)).map (· + n)) = (upto a 64 ++ ((upto b 64).take k).map (· + n)) ++ [(upto b 64)[k] + n] := by
  rw [List.take_add_one, List.getElem?_eq_getElem hk, List.map_append, List.append_assoc]
  rfl

set_option maxRecDepth 100000 in
set_option maxHeartbeats 16000000 in
theorem apart_walk (l l2 : List ByteArray) (s : ByteArray) (w : World) (v v2 : Value) (h : TextsAt w v l) (h2 : TextsAt w v2 l2) (hs : s.size ≤ maxLen) : Calls Try.prog 5 #[v, v2, .string s] w fun e w' => e = .returned (.bool true) ∧ Below w.heap.size w w' := by
  have HT := hid h
  have HU := hid h2
  clear h h2
  go_enter Try.func5, Try.ntmps5
  go_wp2_with fail
  refine (works _).mono ?_
  rintro e w1 ⟨rfl, hb1⟩
  have HT1 := hid (HT.out.below hb1)
  have HU1 := hid (HU.out.below hb1)
  have HB1 := hid hb1
  have KO := hid (over_any l w1 v HT1.out)
  have KO2 := hid (over_any l2 w1 v2 HU1.out)
  clear hb1
  go_wp2_with fail
  refine KO.out.mono ?_
  rintro e w9 ⟨rfl, rfl⟩
  cases hov : overB l with
  | true =>
    go_wp2_with fail
    go_ret
    exact ⟨rfl, HB1.out⟩
  | false =>
  go_wp2_with fail
  refine KO2.out.mono ?_
  rintro e w8 ⟨rfl, rfl⟩
  cases hov2 : overB l2 with
  | true =>
    go_wp2_with fail
    go_ret
    exact ⟨rfl, HB1.out⟩
  | false =>
    have hl8 := over_few hov
    have hl9 := over_few hov2
    clear hov hov2
    by_cases hs40 : (40 : Int) < (s.size : Int)
    · go_wp2_with fail
      go_ret
      exact ⟨rfl, HB1.out⟩
    have KP := hid (parsed_any l w8 v HT1.out (by omega))
    go_wp2_with fail
    refine KP.out.mono ?_
    rintro e w2 ⟨xv, rfl, hrow, hb2⟩
    have HX := hid hrow
    have HB2 := hid hb2
    have KP2 := hid (parsed_any l2 w2 v2 (HU1.out.below hb2) (by omega))
    have hsz2 := hb2.size
    clear hrow hb2
    go_wp2_with fail
    refine KP2.out.mono ?_
    rintro e w3 ⟨yv, rfl, hrow, hb3⟩
    have HY := hid hrow
    have HX3 := hid (HX.out.below hb3)
    have HB3 := hid (HB1.out.trans ((HB2.out.trans (hb3.mono hsz2)).mono HB1.out.size))
    have hsz3 := hb3.size
    have hlx : (treesOf l).length ≤ 8 := Nat.le_trans (List.length_filterMap_le _ _) hl8
    have hly : (treesOf l2).length ≤ 8 := Nat.le_trans (List.length_filterMap_le _ _) hl9
    have HSX := hid (trees_size l)
    have HSY := hid (trees_size l2)
    obtain ⟨VX, hX1, hX2⟩ := HX3.out
    obtain ⟨VY, hY1, hY2⟩ := HY.out
    have hx83 : w8.heap.size ≤ w3.heap.size := by omega
    have HRX := hid (hX1.monoS (S' := fun g => w8.heap.size ≤ g ∧ g < w3.heap.size) fun g h1 hl => ⟨h1.1, hl⟩)
    have HRY := hid (hY1.monoS (S' := fun g => w8.heap.size ≤ g ∧ g < w3.heap.size) fun g h1 hl => ⟨Nat.le_trans hsz2 h1.1, hl⟩)
    have HOX := hid (owns_src hX2)
    have HOY := hid (owns_src hY2)
    have HX4 := hid (RowR.ofRowB HX3.out)
    have HY4 := hid (RowR.ofRowB HY.out)
    generalize treesOf l = X at *
    generalize treesOf l2 = Y at *
    obtain ⟨xo, xc, rfl⟩ := HX4.out.shape
    obtain ⟨yo, yc, rfl⟩ := HY4.out.shape
    obtain ⟨i0, hi, hz0, hz1, hz2⟩ := info_parts info28
    have HLX := hid HRX.out.long
    have HLY := hid HRY.out.long
    have HNX := hid HRX.out.one
    have HNY := hid HRY.out.one
    have hn0 := World.ownsRow_nil w3 w8.heap.size 28 6
    have HN0 := hid hn0
    clear hrow hb3 hX1 hX2 hY1 hY2 hn0
    go_wp2_with (at_builtin; go_loud (refine wpList_append_src rfl (.tmp 39) (.tmp 40) 26 rfl w8.heap.size 28 i0 (.agg zero6) 6 64 Try.underlying26 hi hz0 hz1 hz2 rfl (by decide) (.slice none 0 0) 0 [] rfl HN0.out (.slice xo X.length xc) X.length (VX.flatMap ncs) rfl HOX.out HLX.out HNX.out ?c1 ?c2 ?c3 ?_))
    case c1 => unfold maxLen; omega
    case c2 => omega
    try (case c3 => exact hx83)
    intro v4 w4 hown4 hgrow4 hat4
    have hb4 : Below w3.heap.size w3 w4 := (Below.refl _ _).grown hgrow4 (Nat.le_refl _) (fun q hq => by cases hq)
    have hs4 := hgrow4.size
    have hO4 : ∀ g, v4.ownBlock = some g → w3.heap.size ≤ g := fun g hg => by
      rcases hat4 with e | e
      · rw [e] at hg; cases hg
      · rw [e] at hg; have := Option.some.inj hg; omega
    have HO4 := hid hO4
    have HR4 := hid (show Reps (fun x => w8.heap.size ≤ x ∧ some x ≠ v4.ownBlock) w4 X VX from (HRX.out.kept (keepS_below hb4)).monoS fun g h1 _ => ⟨h1.1, fun e => by have := HO4.out g e.symm; omega⟩)
    have HRY4 := hid (show Reps (fun x => w8.heap.size ≤ x ∧ some x ≠ v4.ownBlock) w4 Y VY from (HRY.out.kept (keepS_below hb4)).monoS fun g h1 _ => ⟨h1.1, fun e => by have := HO4.out g e.symm; omega⟩)
    have HOW4 := hid (show w4.ownsRow w8.heap.size 28 6 v4 X.length (VX.flatMap ncs) by simpa using hown4)
    have HOY4 := hid (show Src w4 (.slice yo Y.length yc) Y.length (VY.flatMap ncs) from by
      rcases HOY.out with h | ⟨ad, c, e, hc⟩
      · exact .inl h
      · exact .inr ⟨ad, c, e, fun j u hu => by
          have h0 := hc j u hu
          have hl := block_lt h0
          have hl2 : ((ad.add j).block) < w3.heap.size := hl
          exact (hb4.cell hl2).trans h0⟩)
    have HB4 := hid hb4
    have hw84 : w8.heap.size ≤ w4.heap.size := by omega
    clear hown4 hgrow4 hat4 hO4 hb4
    go_wp2_with (at_builtin; go_loud (refine wpList_append_src rfl (.tmp 42) (.tmp 43) 26 rfl w8.heap.size 28 i0 (.agg zero6) 6 64 Try.underlying26 hi hz0 hz1 hz2 rfl (by decide) v4 X.length (VX.flatMap ncs) rfl HOW4.out (.slice yo Y.length yc) Y.length (VY.flatMap ncs) rfl HOY4.out HLY.out HNY.out ?d1 ?d2 ?d3 ?_))
    case d1 => unfold maxLen; omega
    case d2 => omega
    try (case d3 => exact hw84)
    intro v5 w5 hown5 hgrow5 hat5
    have HRB := hid (row_join HR4.out HRY4.out hown5 hgrow5 hat5)
    have HB5 := hid (HB4.out.grown hgrow5 hs4 (fun q hq => HO4.out q hq))
    have hs5 := hgrow5.size
    obtain ⟨bo, bc, rfl⟩ := HRB.out.sl
    have HRb := hid (RowR.ofRow HRB.out)
    have HSB := hid (show ∀ k (hk : k < (X ++ Y).length), (X ++ Y)[k].size ≤ 1000000 from fun k hk => by
      rw [List.getElem_append]
      split
      · exact HSX.out _ _
      · exact HSY.out _ _)
    have hxy : (X ++ Y).length ≤ 16 := by rw [List.length_append]; omega
    have hsa := sizeL_app X Y
    have HSA := hid hsa
    clear hsa
    generalize hXY : X ++ Y = XY at *
    have HXY := hid hXY
    clear hXY
    have KS := hid (sizes_any XY w5 _ HRb.out HSB.out (by have := sizes_le _ HSB.out; omega))
    clear hown5 hgrow5 hat5
    go_wp2_with fail
    refine KS.out.mono ?_
    rintro e w6 ⟨rfl, hb6⟩
    have HB6 := hid (HB5.out.trans (hb6.mono HB5.out.size))
    have HRb6 := hid (HRb.out.below hb6)
    clear hb6
    by_cases hsm : 3000 < X3.sizeL XY
    · have h3 : (3000 : Int) < (X3.sizeL XY : Int) := by omega
      go_wp2_with fail
      go_ret
      exact ⟨rfl, HB3.out.trans (HB6.out.mono HB3.out.size)⟩
    have h3 : ¬ (3000 : Int) < (X3.sizeL XY : Int) := by omega
    have HNMX := hid (show ¬ many X by have := HSA.out; rintro (h | h) <;> omega)
    have HNMY := hid (show ¬ many Y by have := HSA.out; rintro (h | h) <;> omega)
    have HNMB := hid (show ¬ many XY by rintro (h | h) <;> omega)
    have HX6 := hid (RowR.lift (HX4.out.kept (w' := w6) ⟨HB6.out.size, fun g h1 hl => HB6.out.block g h1.2⟩))
    have HY6 := hid (RowR.lift (HY4.out.kept (w' := w6) ⟨HB6.out.size, fun g h1 hl => HB6.out.block g h1.2⟩))
    have KB := hid (build_any _ _ w6 _ HX6.out (fun g hg => hg) HSX.out (by omega))
    clear hsm
    go_wp2_with fail
    refine KB.out.mono ?_
    rintro e wa ⟨hba, hP⟩
    rcases hP with ⟨hm, rfl⟩ | ⟨_, m, T, pv, AS, bv, A0, rfl, hN⟩
    · exact absurd hm HNMX.out
    have HNa := hid hN
    have HBa := hid (HB6.out.trans (hba.mono HB6.out.size))
    have HYa := hid (HY6.out.below hba)
    have HRba := hid (HRb6.out.below hba)
    have KB2 := hid (build_any _ _ wa _ HYa.out (fun g hg => hg) HSY.out (by omega))
    clear hN hba
    go_wp2_with fail
    refine KB2.out.mono ?_
    rintro e wb ⟨hbb, hP⟩
    rcases hP with ⟨hm, rfl⟩ | ⟨_, m2, T2, pv2, AS2, bv2, A02, rfl, hN2⟩
    · exact absurd hm HNMY.out
    have HNb := hid (HNa.out.below hbb)
    have HN2b := hid hN2
    have HBb := hid (HBa.out.trans (hbb.mono HBa.out.size))
    have HRbb := hid (HRba.out.below hbb)
    have KB3 := hid (build_any _ _ wb _ HRbb.out (fun g hg => hg) HSB.out (by omega))
    clear hN2 hbb
    go_wp2_with fail
    refine KB3.out.mono ?_
    rintro e wc ⟨hbc, hP⟩
    rcases hP with ⟨hm, rfl⟩ | ⟨_, m3, T3, pv3, AS3, bv3, A03, rfl, hN3⟩
    · exact absurd hm HNMB.out
    have HNc := hid (HNb.out.below hbc)
    have HN2c := hid (HN2b.out.below hbc)
    have HN3c := hid hN3
    have HBc := hid (HBb.out.trans (hbc.mono HBb.out.size))
    have KR1 := hid (run_any HNc.out s (by omega))
    clear hN3 hbc
    go_wp2_with fail
    refine KR1.out.mono ?_
    rintro e wd ⟨a, rfl, hRa, hbd⟩
    have HRa := hid hRa
    have HN2d := hid (HN2c.out.below hbd)
    have HN3d := hid (HN3c.out.below hbd)
    have HBd := hid (HBc.out.trans (hbd.mono HBc.out.size))
    have KL1 := hid (list_any a hRa.1 wd)
    clear hRa hbd
    go_wp2_with fail
    refine KL1.out.mono ?_
    rintro e we ⟨wv, rfl, hwv, hbe⟩
    have HW := hid hwv
    have HBe := hid hbe
    have HN2e := hid (HN2d.out.below hbe)
    have KR2 := hid (run_any HN2e.out s (by omega))
    clear hwv hbe
    go_wp2_with fail
    refine KR2.out.mono ?_
    rintro e wf ⟨b, rfl, hRb, hbf⟩
    have HRb2 := hid hRb
    have HWf := hid (owns_kept HW.out fun g hg => hbf.block g (owns_in HW.out g hg).2)
    have HBf := hid (HBe.out.trans (hbf.mono HBe.out.size))
    have KL2 := hid (list_any b hRb.1 wf)
    clear hRb hbf
    go_wp2_with fail
    refine KL2.out.mono ?_
    rintro e wg ⟨zv, rfl, hzv, hbg⟩
    have HZ := hid hzv
    have HWg := hid (owns_kept HWf.out fun g hg => hbg.block g (owns_in HWf.out g hg).2)
    have HBg := hid (HBf.out.trans (hbg.mono HBf.out.size))
    have HDis : Hid (∀ g, wv.ownBlock = some g → zv.ownBlock ≠ some g) := hid fun g hg hz => by
      have h1 := (owns_in HWf.out g hg).2
      have h2 := (owns_in hzv g hz).1
      omega
    have HZ' := hid (owns_lift hzv HBf.out.size)
    have hza := upto_len a
    have hzb := upto_len b
    have HSM := hid (fun (j : Nat) (hj : j < (upto b 64).length) => (mem_upto.1 (List.getElem_mem hj)).1)
    obtain ⟨zo, zc, rfl⟩ := owns_slice hzv
    clear hzv hbg
    obtain ⟨j0, hj, hk0, hk1, hk2⟩ := info_parts info3
    go_wp2_with fail
    go_loopw [17, 19] (fun t17 t19 wr => ∃ k : Nat, k ≤ (upto b 64).length ∧ t19 = .int .i64 (k : Int) ∧ Hid (wr.ownsRow wd.heap.size 3 1 t17 (upto a 64 ++ ((upto b 64).take k).map (· + X.length)).length (ints (upto a 64 ++ ((upto b 64).take k).map (· + X.length)))) ∧
        Hid (wr.ownsRow wd.heap.size 3 1 (.slice zo (upto b 64).length zc) (upto b 64).length (ints (upto b 64))) ∧ Hid (∀ g, t17.ownBlock = some g → (Value.slice zo (upto b 64).length zc).ownBlock ≠ some g) ∧ Below wd.heap.size wd wr) (fun _ t19 _ => (upto b 64).length - (RowKit.intOf t19).toNat)
    case atStart => exact ⟨0, Nat.zero_le _, rfl, hid (by simpa using HWg.out), HZ', HDis, HBg.out⟩
    case round =>
      obtain ⟨k, hk, rfl, HWr, HZr, HDr, hB⟩ := hrel
      have HBr := hid hB
      have hszr := hB.size
      clear hB
      by_cases hlt : k < (upto b 64).length
      · have hzg : ∃ g, zo = some ⟨g, 0, none⟩ := by
          rcases HZr.out.2 with ⟨h, h0⟩ | ⟨g, cap, cur, h, _⟩
          · omega
          · injection h with h1; exact ⟨g, h1⟩
        obtain ⟨zg, rfl⟩ := hzg
        have hc : wr.cell? ⟨zg, k, none⟩ = some (.int .i64 ((upto b 64)[k] : Int)) := by
          rw [HZr.out.cellAt k (by omega)]
          simp [ints, hlt]
        have HST := hid (apart_take a b X.length k hlt)
        have hz64 := HSM.out k hlt
        have hlw : (upto a 64 ++ ((upto b 64).take k).map (· + X.length)).length ≤ 128 := by simp; omega
        generalize (upto b 64)[k] = z at *
        generalize upto a 64 ++ ((upto b 64).take k).map (· + X.length) = W at *
        have h1 : (k : Int) < ((upto b 64).length : Int) := by omega
        have h2 : (0 : Int) ≤ (k : Int) := by omega
        have h5 : (X.length : Int) ≤ 8 := by omega
        have h6 : (z : Int) < 64 := by omega
        obtain ⟨wq, eq⟩ : ∃ wq, wr.alloc (.cells #[.int .i64 ((z : Int) + (X.length : Int))] 3) = wq := ⟨_, rfl⟩
        have hbq : Below wr.heap.size wr wq := by rw [← eq]; exact (Below.refl _ _).alloc (Nat.le_refl _) _
        have hnq : wq.heap[wr.heap.size]? = some (.cells #[.int .i64 ((z : Int) + (X.length : Int))] 3 (0, 0)) := by rw [← eq]; exact new_block _ _
        have hsq : wr.heap.size < wq.heap.size := by rw [← eq]; simp
        have HWq := hid (owns_kept HWr.out fun g hg => hbq.block g (owns_in HWr.out g hg).2)
        have HZq := hid (owns_kept HZr.out fun g hg => hbq.block g (owns_in HZr.out g hg).2)
        have HBq := hid (HBr.out.trans (hbq.mono hszr))
        have hdq : wd.heap.size ≤ wq.heap.size := by omega
        clear hbq
        go_wp2_with (at_builtin; go_loud (refine wpList_append_own_at _ rfl (.tmp 100) (.tmp 108) 39 rfl wd.heap.size 3 j0 (.int .i64 0) 1 8 Try.underlying39 hj hk0 hk1 hk2 rfl (by decide) _ W.length (ints W) rfl HWq.out ⟨wr.heap.size, 0, none⟩ 1 1 [.int .i64 ((z : Int) + (X.length : Int))] rfl rfl ?k1 ?k2 ?k3 ?k4 ?k5 ?_))
        case k1 =>
          intro j v hj
          have := Lib.cell_of_heap hnq j
          first | rw [show (⟨wr.heap.size, 0, none⟩ : Addr).add j = ⟨wr.heap.size, j, none⟩ by simp [Addr.add]; omega] | skip
          rw [this, ← hj]
          simp
        case k2 => first | (intro v hv; simp at hv; rcases hv with rfl; rfl) | rfl | simp [Value.oneCell']
        case k3 => unfold maxLen; omega
        case k4 => omega
        try (case k5 => exact hdq)
        intro v7 w7 hown7 hgrow7 hnil7 hat7
        have HW7 := hid (show w7.ownsRow wd.heap.size 3 1 v7 (W ++ [z + X.length]).length (ints (W ++ [z + X.length])) by
          rw [List.length_append]; unfold ints; rw [List.map_append]; simpa using hown7)
        have HZ7 := hid (owns_kept HZq.out fun g hg => hgrow7.block g (owns_in HZq.out g hg).2 (fun e => HDr.out g e.symm hg))
        have HD7 : Hid (∀ g, v7.ownBlock = some g → (Value.slice (some ⟨zg, 0, none⟩) (upto b 64).length zc).ownBlock ≠ some g) := hid fun g hg hz => by
          rcases hat7 with h | h
          · rw [h] at hg; exact HDr.out g hg hz
          · rw [h] at hg; have := Option.some.inj hg; have := (owns_in HZq.out g hz).2; omega
        have HB7 := hid (HBq.out.grown hgrow7 hdq (fun q hq => (owns_in HWq.out q hq).1))
        clear hown7 hgrow7 hnil7 hat7 hnq eq
        rw [← HST.out] at HW7
        go_wp2_with fail
        refine ⟨⟨k + 1, by omega, rfl, HW7, HZ7, HD7, HB7.out⟩, ?_⟩
        show (upto b 64).length - ((k : Int) + 1).toNat < (upto b 64).length - ((k : Int)).toNat
        omega
      · have h1 : ¬ (k : Int) < ((upto b 64).length : Int) := by omega
        obtain rfl : k = (upto b 64).length := by omega
        have HWW := hid (show wr.ownsRow wd.heap.size 3 1 u17 ((apartL a b X.length).map fun (n : Nat) => (n : Int)).length (zs ((apartL a b X.length).map fun (n : Nat) => (n : Int))) by
          have := HWr.out
          rw [List.take_length] at this
          rw [List.length_map, ← ints_zs]
          exact this)
        have HN3r := hid (HN3d.out.below HBr.out)
        have KR3 := hid (run_any HN3r.out s (by omega))
        have hla : (apartL a b X.length).length ≤ 128 := by unfold apartL; simp; omega
        go_wp2_with fail
        refine KR3.out.mono ?_
        rintro e w7 ⟨c, rfl, hRc, hb7⟩
        have HRc := hid (apart_bits HRa.out HRb2.out (by rw [HXY.out]; exact hRc) (by omega) (by omega))
        have HW7 := hid (owns_kept HWW.out fun g hg => hb7.block g (owns_in HWW.out g hg).2)
        have KO7 := hid (of_any HW7.out (by rw [List.length_map]; omega))
        rw [← HRc.out] at KO7
        have HB7 := hid (HBr.out.trans (hb7.mono hszr))
        clear hRc hb7
        go_wp2_with fail
        refine KO7.out.mono ?_
        rintro e w8 ⟨rfl, rfl⟩
        go_wp2_with fail
        go_ret
        exact ⟨rfl, HB3.out.trans ((HBd.out.trans (HB7.out.mono HBd.out.size)).mono HB3.out.size)⟩
end Go.Proofs.Ytochckefnjobhaa
