/- MiniApart: the walk. -/
import Derived.Test.YtochckefnjobhaaGreatDoorTd
import Derived.Test.YtochckefnjobhaaGreatDoorTe
namespace Go.Proofs.YtochckefnjobhaaGreatDoor
open Go Go.RowKit Go.Lib
open X5 (Aut)
set_option linter.unusedVariables false
set_option linter.unusedSimpArgs false
theorem live_at {D : Aut} {dd : Array Value} {w : World} (h : Lies D dd w) (hf : X6.Few D) (z : Int) : Calls Tryz.prog 16 #[.agg dd, .int .i64 z] w (LiveP D z w) := by
 obtain ⟨nv, tv, rfl, h⟩ := h
 exact liveAt_any h hf.1 hf.2.1 hf.2.2.2 z
set_option maxRecDepth 100000 in
set_option maxHeartbeats 16000000 in
theorem apart_walk {D : Aut} {d0 : Array Value} (w : World) (hL : Lies D d0 w) {Bt : Nat} (ht : Tab Bt w) (hBt : Bt ≤ w.heap.size) :
  Calls Tryz.prog 3 #[.agg d0] w fun e w' => e = .returned (.bool true) ∧ Below w.heap.size w w' := by
 obtain ⟨wa, ea, hxa, hba⟩ := boxed w d0
 have HL := hid (hL.below hba)
 have HX := hid hxa
 have HB := hid hba
 have K := hid (works06 wa (ht.on (hba.mono hBt)) (Nat.le_trans hBt hba.size))
 obtain ⟨h11, h12, h13, h14⟩ := hL.sz
 have HD := hid (And.intro h11 (And.intro h12 (And.intro h13 h14)))
 clear hL ht hxa hba h11 h12 h13 h14
 go_enter Tryz.func3, Tryz.ntmps3
 go_wp2_with fail
 refine K.out.mono ?_
 rintro e w1 ⟨rfl, hb⟩
 clear K ea
 have HB1 := hid (HB.out.trans (hb.mono HB.out.size))
 have HL := hid (HL.out.below hb)
 have HX := hid (HX.out.below hb)
 have K := hid (little_at HL.out)
 clear hb
 go_wp2_with fail
 refine wp_load30' (.tmp 1) rfl w.heap.size rfl d0 HX.out HD.out.1 ?_
 go_wp2_with fail
 refine K.out.mono ?_
 rintro e w2 ⟨b, rfl, hbl, hb⟩
 clear K
 have HB2 := hid (HB1.out.trans (hb.mono HB1.out.size))
 have HL := hid (HL.out.below hb)
 have HX := hid (HX.out.below hb)
 clear hb
 cases b with
 | false =>
  clear hbl
  go_wp2_with fail
  go_ret
  exact ⟨rfl, HB2.out⟩
 | true =>
  have HLT := hid (hbl.1 rfl)
  have HF := hid (X6.Lit.few (hbl.1 rfl))
  clear hbl
  by_cases hv : X6.Vd D
  ·have HV := hid hv
   have K := hid (least_yes HL.out HF.out hv)
   clear hv
   go_wp2_with fail
   refine wp_load30' (.tmp 1) rfl w.heap.size rfl d0 HX.out HD.out.1 ?_
   go_wp2_with fail
   refine K.out.mono ?_
   rintro e w3 ⟨M, dm, rfl, hm, hil, hb⟩
   clear K
   have HB3 := hid (HB2.out.trans (hb.mono HB2.out.size))
   have HM := hid hm.sz
   have HI := hid hil
   obtain ⟨w4, e4, hx4, hb4, hs4⟩ := kept_new w3 dm
   have HB4 := hid (HB3.out.trans (hb4.mono HB3.out.size))
   have HLM := hid (hm.below hb4)
   have HXM := hid hx4
   have HN := hid (new_block w3 (.cells dvz 26))
   have HVM := hid (hil.vd HV.out)
   have HFM := hid (hil.small HV.out HF.out)
   have HOM := hid (hil.ok HV.out)
   have HRW := hid (hil.row HV.out)
   have hn30 : M.next.length < 30 := Nat.lt_of_le_of_lt (hil.few HV.out) HLT.out.1
   have KO := hid (ofD_any w4 HLM.out)
   obtain ⟨n, hnn⟩ : ∃ n, M.next.length = n := ⟨_, rfl⟩
   have HNN := hid hnn
   rw [hnn] at hn30
   obtain ⟨o7, c7, h7⟩ := hm.sz.2.2.1
   rw [hnn] at h7
   have H7 := hid h7
   clear hb hm hil hx4 hb4 hs4 hnn h7
   go_wp2_with (first | (with_reducible refine wpList_made30 rfl rfl ?_) | (with_reducible refine wpList_store30 rfl (.tmp 5) (.tmp 21) rfl w3.heap.size rfl dvz dm HN.out rfl dvz_size HM.out.1 HM.out.2.1 ?_))
   refine wp_load30' (.tmp 5) rfl w3.heap.size rfl dm HXM.out HM.out.1 ?_
   go_wp2_with fail
   clear e4
   refine KO.out.mono ?_
   rintro e w5 ⟨rfl, hb⟩
   clear KO
   have HB5 := hid (HB4.out.trans (hb.mono HB4.out.size))
   have HLM := hid (HLM.out.below hb)
   have HXM := hid (HXM.out.below hb)
   have KA := hid (apart_any HLM.out HOM.out HF.out.2.2.1 (by rw [HNN.out]; omega))
   rw [HNN.out] at KA
   obtain ⟨N, hN⟩ : ∃ N, n + 1 = N := ⟨_, rfl⟩
   rw [hN] at KA
   clear hb
   go_wp2_with fail
   refine KA.out.mono ?_
   rintro e w6 ⟨fo, fc, G, F, rfl, hfa, hG, hF, hb⟩
   clear KA
   obtain ⟨g, hfo⟩ : ∃ g, fo = some ⟨g, 0, none⟩ := by
    obtain ⟨o, c, b, e, _⟩ := hfa.get (i := 0) (by omega)
    injection e with e
    exact ⟨o, e⟩
   subst hfo
   have HB6 := hid (HB5.out.trans (hb.mono HB5.out.size))
   have HLM := hid (HLM.out.below hb)
   have HXM := hid (HXM.out.below hb)
   have HFA := hid hfa
   have HG := hid hG
   have HF2 := hid hF
   clear hb hfa hG hF HL HX
   go_wp2_with fail
   go_loopw [8, 9] (fun t8 t9 wr => ∃ i : Nat, i ≤ n ∧ t8 = .int .i64 (i : Int) ∧ Hid (Below w6.heap.size w6 wr)) (fun t8 _ _ => n - (RowKit.intOf t8).toNat)
   case atStart => exact ⟨0, Nat.zero_le _, rfl, hid (Below.refl _ _)⟩
   case round =>
    obtain ⟨i, hi, rfl, HBr⟩ := hrel
    have hle := HBr.out.size
    have HXr := hid (HXM.out.below HBr.out)
    have c256 : wr.cell? ⟨w3.heap.size, 256, none⟩ = some (.slice o7 n c7) := (Lib.cell_of_heap HXr.out 256).trans H7.out
    by_cases hlt : i < n
    ·have h1 : (i : Int) < (n : Int) := by omega
     have KL := hid (live_at (HLM.out.below HBr.out) HFM.out (i : Int))
     go_wp2_with fail
     refine wp_load30' (.tmp 5) rfl w3.heap.size rfl dm HXr.out HM.out.1 ?_
     go_wp2_with fail
     refine KL.out.mono ?_
     rintro e w7 ⟨b, rfl, hbl, hb⟩
     clear KL
     have HB7 := hid (HBr.out.trans (hb.mono hle))
     have hfa := HFA.out.below HB7.out
     have HX7 := hid (HXr.out.below hb)
     have c256 : w7.cell? ⟨w3.heap.size, 256, none⟩ = some (.slice o7 n c7) := (Lib.cell_of_heap HX7.out 256).trans H7.out
     have HFr := hid hfa
     have H1 := hid (show b = false → ¬ 1 < n from fun hbf hn => by
      have := X6.IsL.live HV.out HI.out (by rw [HNN.out]; exact hn) (i := i) (by rw [HNN.out]; exact hlt)
      rw [hbl.2 ⟨HVM.out, by omega, by rw [HNN.out]; exact h1, by rw [HRW.out]; exact this⟩] at hbf
      cases hbf)
     have HT := hid (show ∀ k, k < i → F i k = true from fun k hk => by
      rw [HF2.out i k (by omega) (by omega)]
      unfold X8.pl
      rw [if_pos (by omega), if_pos (by omega)]
      exact X6.IsL.apart HV.out HI.out (by rw [HNN.out]; exact hlt) (by rw [HNN.out]; omega) (by omega))
     clear hbl hb hfa
     have i0 : (0 : Int) ≤ (i : Int) := by omega
     have i1 : (i : Int) < (N : Int) := by omega
     cases b with
     | true =>
      clear H1
      go_wp2_with fail
      go_loopw [9] (fun t9 wr => ∃ k : Nat, k ≤ i ∧ t9 = .int .i64 (k : Int) ∧ Hid (Below w7.heap.size w7 wr)) (fun t9 _ => i - (RowKit.intOf t9).toNat)
      case atStart => exact ⟨0, Nat.zero_le _, rfl, hid (Below.refl _ _)⟩
      case round =>
       obtain ⟨k, hk, rfl, HBk⟩ := hrel
       have hle7 := HBk.out.size
       by_cases hlk : k < i
       ·have h2 : (k : Int) < (i : Int) := by omega
        have k0 : (0 : Int) ≤ (k : Int) := by omega
        have k1 : (k : Int) < (N : Int) := by omega
        obtain ⟨fb, cfo, _, _, _, _, cfb, _⟩ := (HFr.out.below HBk.out).cell (i := i) (by rw [HG.out]; omega)
        have cfk := cfb k (by omega)
        rw [HT.out k hlk] at cfk
        clear cfb
        go_wp2_with fail
        refine ⟨⟨k + 1, by omega, rfl, HBk⟩, ?_⟩
        show i - ((k : Int) + 1).toNat < i - ((k : Int)).toNat
        omega
       ·have h2 : ¬ (k : Int) < (i : Int) := by omega
        have HB8 := hid (HB7.out.trans (HBk.out.mono HB7.out.size))
        go_wp2_with fail
        refine ⟨⟨i + 1, by omega, rfl, HB8⟩, ?_⟩
        show n - ((i : Int) + 1).toNat < n - ((i : Int)).toNat
        omega
     | false =>
      have hn1 : ¬ (1 : Int) < (n : Int) := by have := H1.out rfl; omega
      have hn2 : decide ((1 : Int) < (n : Int)) = false := decide_eq_false hn1
      have hn3 : decide (1 < n) = false := decide_eq_false (H1.out rfl)
      clear H1
      go_wp2_with fail
      go_loopw [9] (fun t9 wr => ∃ k : Nat, k ≤ i ∧ t9 = .int .i64 (k : Int) ∧ Hid (Below w7.heap.size w7 wr)) (fun t9 _ => i - (RowKit.intOf t9).toNat)
      case atStart => exact ⟨0, Nat.zero_le _, rfl, hid (Below.refl _ _)⟩
      case round =>
       obtain ⟨k, hk, rfl, HBk⟩ := hrel
       have hle7 := HBk.out.size
       by_cases hlk : k < i
       ·have h2 : (k : Int) < (i : Int) := by omega
        have k0 : (0 : Int) ≤ (k : Int) := by omega
        have k1 : (k : Int) < (N : Int) := by omega
        obtain ⟨fb, cfo, _, _, _, _, cfb, _⟩ := (HFr.out.below HBk.out).cell (i := i) (by rw [HG.out]; omega)
        have cfk := cfb k (by omega)
        rw [HT.out k hlk] at cfk
        clear cfb
        go_wp2_with fail
        refine ⟨⟨k + 1, by omega, rfl, HBk⟩, ?_⟩
        show i - ((k : Int) + 1).toNat < i - ((k : Int)).toNat
        omega
       ·have h2 : ¬ (k : Int) < (i : Int) := by omega
        have HB8 := hid (HB7.out.trans (HBk.out.mono HB7.out.size))
        go_wp2_with fail
        refine ⟨⟨i + 1, by omega, rfl, HB8⟩, ?_⟩
        show n - ((i : Int) + 1).toNat < n - ((i : Int)).toNat
        omega
    ·have h1 : ¬ (i : Int) < (n : Int) := by omega
     have HE := hid (HB6.out.trans (HBr.out.mono HB6.out.size))
     go_wp2_with fail
     go_ret
     exact ⟨rfl, HE.out⟩
  ·have K := hid (least_no HL.out HF.out hv)
   clear hv
   go_wp2_with fail
   refine wp_load30' (.tmp 1) rfl w.heap.size rfl d0 HX.out HD.out.1 ?_
   go_wp2_with fail
   refine K.out.mono ?_
   rintro e w3 ⟨rfl, hb⟩
   clear K
   have HB3 := hid (HB2.out.trans (hb.mono HB2.out.size))
   obtain ⟨w4, e4, hx4, hb4, hs4⟩ := kept_new w3 dvz
   have HB4 := hid (HB3.out.trans (hb4.mono HB3.out.size))
   have HN := hid (new_block w3 (.cells dvz 26))
   have HM := hid (And.intro dvz_size dvz_one)
   clear hb hx4 hb4 hs4
   go_wp2_with (first | (with_reducible refine wpList_made30 rfl rfl ?_) | (with_reducible refine wpList_store30 rfl (.tmp 5) (.tmp 21) rfl w3.heap.size rfl dvz dvz HN.out rfl dvz_size HM.out.1 HM.out.2 ?_))
   go_ret
   exact ⟨rfl, HB4.out⟩
end Go.Proofs.YtochckefnjobhaaGreatDoor
