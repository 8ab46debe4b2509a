/- MunchPicks: the walk. -/
import Derived.Test.YtochckefnjobhaaGreatDoorVg
import Derived.Test.YtochckefnjobhaaGreatDoorWo
namespace Go.Proofs.YtochckefnjobhaaGreatDoor
open Go Go.RowKit Go.Lib
open X5 (Aut)
open X7 (M64)
set_option linter.unusedVariables false
set_option linter.unusedSimpArgs false
set_option maxRecDepth 100000 in
set_option maxHeartbeats 16000000 in
theorem picks_walk {D : Aut} {d0 : Array Value} (w : World) (hL : Lies D d0 w) (s : ByteArray) (hs : s.size ≤ maxLen) (z : Int) (hz : (Lit.int .i64 z).wf = true) (may : Nat) (hmay : may < M64) (v : Value) (l : List (Int × Int)) (hv : OverAt w v l) (hl : l.length ≤ maxLen) {Bt : Nat} (ht : Tab Bt w) (hBt : Bt ≤ w.heap.size) :
  Calls Tryz.prog 5 #[.agg d0, .string s, .int .i64 z, .int .u64 (may : Int), v] w fun e w' => e = .returned (.bool true) ∧ Below w.heap.size w w' := by
 obtain ⟨wa, ea, hxa, hba⟩ := boxed w d0
 obtain ⟨vo, vc, rfl⟩ : ∃ vo vc, v = .slice vo l.length vc := by obtain ⟨ro, rc, e, _⟩ := hv; exact ⟨_, _, e⟩
 have HV := hid (hv.below hba)
 have HLM := hid hl
 clear hv hl
 have HL := hid (hL.below hba)
 have HX := hid hxa
 have HB := hid hba
 have K := hid (works07 wa (ht.on (hba.mono hBt)) (Nat.le_trans hBt hba.size))
 have HD := hid hL.sz
 have HSM := hid hs
 clear hL ht hxa hba hs
 go_enter Tryz.func5, Tryz.ntmps5
 go_wp2_with fail
 refine K.out.mono ?_
 rintro e w1 ⟨rfl, hb⟩
 clear K ea
 have HB1 := hid (HB.out.trans (hb.mono HB.out.size))
 have HL := hid (HL.out.below hb)
 have HX := hid (HX.out.below hb)
 have HV := hid (HV.out.below hb)
 have K := hid (few_any w1 HL.out s HSM.out vo l.length vc HLM.out)
 clear hb
 go_wp2_with fail
 refine wp_load30' (.tmp 5) rfl w.heap.size rfl d0 HX.out HD.out.1 ?_
 go_wp2_with fail
 refine K.out.mono ?_
 rintro e w2 ⟨b, rfl, hbl, hb⟩
 clear K
 have HB2 := hid (HB1.out.trans (hb.mono HB1.out.size))
 have HL := hid (HL.out.below hb)
 have HX := hid (HX.out.below hb)
 have HV := hid (HV.out.below hb)
 clear hb
 cases b with
 | false =>
  clear hbl
  go_wp2_with fail
  go_ret
  exact ⟨rfl, HB2.out⟩
 | true =>
  have HLT := hid (hbl rfl)
  have hs40 := HLT.out.2.1
  clear hbl
  have hl40 := HLT.out.2.2
  have K := hid (ofD_any w2 HL.out)
  go_wp2_with fail
  refine wp_load30' (.tmp 5) rfl w.heap.size rfl d0 HX.out HD.out.1 ?_
  go_wp2_with fail
  refine K.out.mono ?_
  rintro e w3 ⟨rfl, hb⟩
  clear K
  have HB3 := hid (HB2.out.trans (hb.mono HB2.out.size))
  have HL := hid (HL.out.below hb)
  have HX := hid (HX.out.below hb)
  have HV := hid (HV.out.below hb)
  clear hb
  obtain ⟨w4, e4⟩ : ∃ w4, (w3.alloc (.cells dvz 34)).setRow w3.heap.size d0 = w4 := ⟨_, rfl⟩
  have hb : Below w3.heap.size w3 w4 := by rw [← e4]; exact row_below ((Below.refl _ _).alloc (Nat.le_refl _) _) (Nat.le_refl _)
  have HR := hid (show w4.heap[w3.heap.size]? = some (.cells d0 34 (0, 0)) from by rw [← e4]; exact setRow_heap _ _ dvz d0 34 (0, 0) (new_block w3 (.cells dvz 34)))
  have HNB := hid (new_block w3 (.cells dvz 34))
  have HB4 := hid (HB3.out.trans (hb.mono HB3.out.size))
  have HL := hid (HL.out.below hb)
  have HX := hid (HX.out.below hb)
  have HV := hid (HV.out.below hb)
  go_wp2_with (first | (with_reducible refine wpList_made34 rfl rfl ?_) | (with_reducible refine wpList_store34 rfl (.tmp 13) (.tmp 31) rfl w3.heap.size rfl dvz d0 HNB.out rfl dvz_size HD.out.1 HD.out.2.1 ?_))
  try rw [e4]
  clear e4 HNB hb
  have K := hid (longest_any w4 HL.out s (by omega) z may hmay)
  have KR := fun (wq : World) (hq : Lies D d0 wq) => longestR_any wq hq s (by omega) z hz may hmay
  have KR := hid KR
  have KP := hid (fun (wq : World) (hq : Lies D d0 wq) (hvq : OverAt wq _ l) => pick_any wq hq s (by omega) z may hmay (.slice vo l.length vc) l hvq (by omega))
  have KPR := hid (fun (wq : World) (hq : Lies D d0 wq) (hvq : OverAt wq _ l) => pickR_any wq hq s (by omega) z hz may hmay (.slice vo l.length vc) l hvq (by omega))
  generalize X7.pickX D (LL s) z may l = P at *
  obtain ⟨q1, hq1⟩ : ∃ q1 : Nat, (X7.lgX D (LL s) z may).1 = q1 := ⟨_, rfl⟩
  obtain ⟨q2, hq2⟩ : ∃ q2 : Int, (X7.lgX D (LL s) z may).2 = q2 := ⟨_, rfl⟩
  rw [hq1, hq2] at K KR
  clear hq1 hq2
  refine wp_load30' (.tmp 5) rfl w.heap.size rfl d0 HX.out HD.out.1 ?_
  go_wp2_with fail
  refine K.out.mono ?_
  rintro e w5 ⟨rfl, hb⟩
  clear K
  have HB5 := hid (HB4.out.trans (hb.mono HB4.out.size))
  have HL := hid (HL.out.below hb)
  have HX := hid (HX.out.below hb)
  have HV := hid (HV.out.below hb)
  have HR := hid ((hb.block _ (Array.getElem?_eq_some_iff.1 HR.out).1).trans HR.out)
  clear hb
  obtain ⟨wx6, ex6⟩ : ∃ wx, w5.alloc (.cells #[.int .u64 0, .int .i64 0] 61) = wx := ⟨_, rfl⟩
  have hbx : Below w5.heap.size w5 wx6 := by rw [← ex6]; exact (Below.refl _ _).alloc (Nat.le_refl _) _
  have nx : wx6.heap[w5.heap.size]? = some (.cells #[.int .u64 0, .int .i64 0] 61 (0, 0)) := by rw [← ex6]; exact new_block _ _
  have c30 : World.cell? wx6 ⟨w5.heap.size, 0, none⟩ = some (.int .u64 0) := Lib.cell_of_heap nx 0
  have c31 : World.cell? wx6 ⟨w5.heap.size, 1, none⟩ = some (.int .i64 0) := Lib.cell_of_heap nx 1
  have f30 := Lib.frozen_of_heap nx 0
  have f31 := Lib.frozen_of_heap nx 1
  have hset := set_two nx (.int .u64 (q1 : Int)) (.int .i64 q2)
  go_wp2_with fail
  generalize ((wx6.setCell ⟨w5.heap.size, 0, none⟩ (.int .u64 (q1 : Int))).setCell ⟨w5.heap.size, 1, none⟩ (.int .i64 q2)) = w6 at hset ⊢
  have hk := hset.2 (m := w5.heap.size)
  have hb : Below w5.heap.size w5 w6 := hk.bel hbx (Nat.le_refl _) (Nat.le_refl _)
  have HLG := hid hset.1
  clear hset hk hbx nx c30 c31 f30 f31 ex6
  have HB6 := hid (HB5.out.trans (hb.mono HB5.out.size))
  have HL := hid (HL.out.below hb)
  have HX := hid (HX.out.below hb)
  have HV := hid (HV.out.below hb)
  have HR := hid ((hb.block _ (Array.getElem?_eq_some_iff.1 HR.out).1).trans HR.out)
  clear hb
  refine wp_load34 (.tmp 13) rfl w3.heap.size rfl d0 HR.out HD.out.1 ?_
  go_wp2_with fail
  refine (KR.out w6 HL.out).mono ?_
  rintro e w7 ⟨rfl, hb⟩
  clear KR
  have HB7 := hid (HB6.out.trans (hb.mono HB6.out.size))
  have HL := hid (HL.out.below hb)
  have HX := hid (HX.out.below hb)
  have HV := hid (HV.out.below hb)
  have HR := hid ((hb.block _ (Array.getElem?_eq_some_iff.1 HR.out).1).trans HR.out)
  have HLG := hid ((hb.block _ (Array.getElem?_eq_some_iff.1 HLG.out).1).trans HLG.out)
  clear hb
  obtain ⟨wx8, ex8⟩ : ∃ wx, w7.alloc (.cells #[.int .u64 0, .int .i64 0] 63) = wx := ⟨_, rfl⟩
  have hbx : Below w7.heap.size w7 wx8 := by rw [← ex8]; exact (Below.refl _ _).alloc (Nat.le_refl _) _
  have nx : wx8.heap[w7.heap.size]? = some (.cells #[.int .u64 0, .int .i64 0] 63 (0, 0)) := by rw [← ex8]; exact new_block _ _
  have c30 : World.cell? wx8 ⟨w7.heap.size, 0, none⟩ = some (.int .u64 0) := Lib.cell_of_heap nx 0
  have c31 : World.cell? wx8 ⟨w7.heap.size, 1, none⟩ = some (.int .i64 0) := Lib.cell_of_heap nx 1
  have f30 := Lib.frozen_of_heap nx 0
  have f31 := Lib.frozen_of_heap nx 1
  have hset := set_two nx (.int .u64 (q1 : Int)) (.int .i64 q2)
  go_wp2_with fail
  generalize ((wx8.setCell ⟨w7.heap.size, 0, none⟩ (.int .u64 (q1 : Int))).setCell ⟨w7.heap.size, 1, none⟩ (.int .i64 q2)) = w8 at hset ⊢
  have hk := hset.2 (m := w7.heap.size)
  have hb : Below w7.heap.size w7 w8 := hk.bel hbx (Nat.le_refl _) (Nat.le_refl _)
  have HLR := hid hset.1
  clear hset hk hbx nx c30 c31 f30 f31 ex8
  have HB8 := hid (HB7.out.trans (hb.mono HB7.out.size))
  have HL := hid (HL.out.below hb)
  have HX := hid (HX.out.below hb)
  have HV := hid (HV.out.below hb)
  have HR := hid ((hb.block _ (Array.getElem?_eq_some_iff.1 HR.out).1).trans HR.out)
  have HLG := hid ((hb.block _ (Array.getElem?_eq_some_iff.1 HLG.out).1).trans HLG.out)
  clear hb
  refine wp_load30' (.tmp 5) rfl w.heap.size rfl d0 HX.out HD.out.1 ?_
  go_wp2_with fail
  refine (KP.out w8 HL.out HV.out).mono ?_
  rintro e w9 ⟨rfl, hb⟩
  have HB9 := hid (HB8.out.trans (hb.mono HB8.out.size))
  have HL := hid (HL.out.below hb)
  have HX := hid (HX.out.below hb)
  have HV := hid (HV.out.below hb)
  have HR := hid ((hb.block _ (Array.getElem?_eq_some_iff.1 HR.out).1).trans HR.out)
  have HLG := hid ((hb.block _ (Array.getElem?_eq_some_iff.1 HLG.out).1).trans HLG.out)
  have HLR := hid ((hb.block _ (Array.getElem?_eq_some_iff.1 HLR.out).1).trans HLR.out)
  clear hb
  go_wp2_with fail
  refine wp_load34 (.tmp 13) rfl w3.heap.size rfl d0 HR.out HD.out.1 ?_
  go_wp2_with fail
  refine (KPR.out w9 HL.out HV.out).mono ?_
  rintro e w10 ⟨rfl, hb⟩
  have HB10 := hid (HB9.out.trans (hb.mono HB9.out.size))
  have HL := hid (HL.out.below hb)
  have HX := hid (HX.out.below hb)
  have HV := hid (HV.out.below hb)
  have HR := hid ((hb.block _ (Array.getElem?_eq_some_iff.1 HR.out).1).trans HR.out)
  have HLG := hid ((hb.block _ (Array.getElem?_eq_some_iff.1 HLG.out).1).trans HLG.out)
  have HLR := hid ((hb.block _ (Array.getElem?_eq_some_iff.1 HLR.out).1).trans HLR.out)
  clear hb
  have cg0 : World.cell? w10 ⟨w5.heap.size, 0, none⟩ = some (.int .u64 (q1 : Int)) := Lib.cell_of_heap HLG.out 0
  have cg1 : World.cell? w10 ⟨w5.heap.size, 1, none⟩ = some (.int .i64 q2) := Lib.cell_of_heap HLG.out 1
  have cr0 : World.cell? w10 ⟨w7.heap.size, 0, none⟩ = some (.int .u64 (q1 : Int)) := Lib.cell_of_heap HLR.out 0
  have cr1 : World.cell? w10 ⟨w7.heap.size, 1, none⟩ = some (.int .i64 q2) := Lib.cell_of_heap HLR.out 1
  have KW := hid (win_any may hmay _ l w10 HV.out (by omega))
  have KWR := hid (fun (wq : World) (hvq : OverAt wq _ l) => winR_any may hmay (.slice vo l.length vc) l wq hvq (by omega))
  generalize X7.winX may l = lf at *
  clear KP KPR HR HLG HLR HX HL
  go_wp2_with fail
  refine KW.out.mono ?_
  rintro e w11 ⟨rfl, hb⟩
  have HB11 := hid (HB10.out.trans (hb.mono HB10.out.size))
  have HV := hid (HV.out.below hb)
  clear hb KW cg0 cg1 cr0 cr1
  go_wp2_with fail
  refine (KWR.out w11 HV.out).mono ?_
  rintro e w12 ⟨rfl, hb⟩
  have HB12 := hid (HB11.out.trans (hb.mono HB11.out.size))
  clear hb KWR
  go_wp2_with fail
  go_ret
  exact ⟨by simp, HB12.out⟩
end Go.Proofs.YtochckefnjobhaaGreatDoor
