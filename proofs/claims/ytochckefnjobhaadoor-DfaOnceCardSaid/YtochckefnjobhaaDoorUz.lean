/- DfaOnce: the walk. -/
import Derived.Test.YtochckefnjobhaaDoorUu
import Derived.Test.YtochckefnjobhaaDoorWf
import Derived.Test.YtochckefnjobhaaDoorMh
namespace Go.Proofs.YtochckefnjobhaaDoor
open Go Go.RowKit Go.Lib
open X3 (RX Pl)
open X5 (Aut)
set_option linter.unusedVariables false
set_option linter.unusedSimpArgs false

theorem run_none (s : List UInt8) : RunR [] s 0 := ⟨by decide, fun i => by simp⟩
theorem run_one (r : RX) (s : List UInt8) : RunR [r] s (if X3.mtB r s then 1 else 0) := by
  by_cases h : X3.mtB r s = true
  · rw [if_pos h]
    refine ⟨by decide, fun i => ?_⟩
    cases i with
    | zero => simpa using (X3.mtB_iff r s).1 h
    | succ i => simp [Nat.testBit_succ]
  · rw [if_neg h]
    refine ⟨by decide, fun i => ?_⟩
    cases i with
    | zero => simpa using fun hm => h ((X3.mtB_iff r s).2 hm)
    | succ i => simp
theorem one_text {w : World} {text : ByteArray} (ht : text.size ≤ maxLen) {w' : World} (e : w.alloc (.cells #[.string text] 9) = w') : TextsAt w' (.slice (some ⟨w.heap.size, 0, none⟩) 1 1) [text] ∧ Below w.heap.size w w' := by
  have hb : Below w.heap.size w w' := by rw [← e]; exact (Below.refl _ _).alloc (Nat.le_refl _) _
  have hn : w'.heap[w.heap.size]? = some (.cells #[.string text] 9 (0, 0)) := by rw [← e]; exact new_block _ _
  refine ⟨⟨⟨some ⟨w.heap.size, 0, none⟩, 1, rfl, fun j hj => ⟨w.heap.size, 0, rfl, (Array.getElem?_eq_some_iff.1 hn).1, ?_⟩⟩, fun s hs => ?_, by unfold maxLen; simp⟩, hb⟩
  · obtain rfl : j = 0 := by simpa using hj
    exact Lib.cell_of_heap hn 0
  · rw [List.mem_singleton.1 hs]; exact ht
theorem trees_one (text : ByteArray) : treesOf [text] = [] ∨ ∃ r, treesOf [text] = [r] ∧ r.size ≤ 500 := by
  unfold treesOf
  cases h : peX text with
  | none => left; simp [h]
  | some r => right; exact ⟨r, by simp [h], peX_size h⟩

set_option maxRecDepth 100000 in
set_option maxHeartbeats 16000000 in
theorem once_walk (text s : ByteArray) (w : World) (htx : text.size ≤ maxLen) (hs : s.size ≤ maxLen) {Bt : Nat} (ht : Tab Bt w) (hBt : Bt ≤ w.heap.size) :
    Calls Tryd.prog 6 #[.string text, .string s] w fun e w' => e = .returned (.bool true) ∧ Below w.heap.size w w' := by
  have HTab := hid ht
  have KW := hid (works w ht hBt)
  have HTX := hid htx
  unfold maxLen at hs htx
  clear ht
  go_enter Tryd.func6, Tryd.ntmps6
  go_wp2_with fail
  refine KW.out.mono ?_
  rintro e w1 ⟨rfl, hb1⟩
  have HB1 := hid hb1
  clear hb1
  by_cases h12 : (12 : Int) < (text.size : Int)
  · go_wp2_with fail
    go_ret
    exact ⟨rfl, HB1.out⟩
  by_cases hs40 : (40 : Int) < (s.size : Int)
  · go_wp2_with fail
    go_ret
    exact ⟨rfl, HB1.out⟩
  obtain ⟨w9, e9⟩ : ∃ w9, w1.alloc (.cells #[.string text] 9) = w9 := ⟨_, rfl⟩
  obtain ⟨hT9, hb9⟩ := one_text HTX.out e9
  have HB9 := hid (HB1.out.trans (hb9.mono HB1.out.size))
  have KP := hid (parsed_any [text] w9 _ hT9 (by simp))
  clear hT9 hb9
  go_wp2_with fail
  refine KP.out.mono ?_
  rintro e w2 ⟨rv, rfl, hrow, hb2⟩
  have HSZ := hid (trees_size [text])
  have hlen : (treesOf [text]).length ≤ 1 := List.length_filterMap_le _ _
  have HB2 := hid (HB9.out.trans (hb2.mono HB9.out.size))
  have hR2 := RowR.ofRow hrow
  have KB := hid (dfa_build_any (treesOf [text]) w2 rv hR2 HSZ.out (by omega) (HTab.out.on (HB2.out.mono hBt)) (Nat.le_trans hBt HB2.out.size))
  have H1 := hid (trees_one text)
  have HR2 := hid hR2
  generalize treesOf [text] = L at *
  clear hrow hb2 KP e9 hR2
  go_wp2_with fail
  refine KB.out.mono ?_
  rintro e w3 ⟨hb3, ⟨hm, rfl⟩ | ⟨D, SS, A0, nv, tv, _, rfl, hA0, hS, hD⟩⟩
  · have HNB := hid (new_block w3 (.cells dvz 30))
    obtain ⟨w4, e4⟩ : ∃ w4, (w3.alloc (.cells dvz 30)).setRow w3.heap.size dvz = w4 := ⟨_, rfl⟩
    have hb4 : Below w3.heap.size w3 w4 := by rw [← e4]; exact ans_below (w0 := w3) ((Below.refl _ _).alloc (Nat.le_refl _) _) (Nat.le_refl _)
    have HB4 := hid (HB2.out.trans ((hb3.trans (hb4.mono hb3.size)).mono HB2.out.size))
    clear hm hb3 hb4
    go_wp2_with (first | (with_reducible refine wpList_made30 rfl rfl ?_) | (with_reducible refine wpList_store30 rfl (.tmp 7) (.tmp 29) rfl w3.heap.size rfl dvz dvz HNB.out rfl dvz_size dvz_size dvz_one ?_))
    clear e4
    go_ret
    exact ⟨rfl, HB4.out⟩
  · obtain ⟨no, nc, hno, _⟩ := hD.rows
    obtain ⟨to, tc, hto, htags⟩ := hD.tags
    have hcl : D.cls.length = 256 := hD.len
    obtain ⟨dc, hdc⟩ : ∃ dc, dval D nv tv = dc := ⟨_, rfl⟩
    rw [hdc]
    have HS1 := hid (show dc.size = 258 from by rw [← hdc]; simp [dval, ivs, hcl])
    have HS2 := hid (show dc.all (·.oneCell') = true from by rw [← hdc]; exact dval_one D (nv := nv) (tv := tv) (by rw [hno]; rfl) (by rw [hto]; rfl))
    have HNB := hid (new_block w3 (.cells dvz 30))
    obtain ⟨w4, e4⟩ : ∃ w4, (w3.alloc (.cells dvz 30)).setRow w3.heap.size dc = w4 := ⟨_, rfl⟩
    have hd4 : w4.heap[w3.heap.size]? = some (.cells dc 30 (0, 0)) := by rw [← e4]; exact setRow_heap _ _ dvz _ 30 (0, 0) HNB.out
    have hb4 : Below w3.heap.size w3 w4 := by rw [← e4]; exact ans_below (w0 := w3) ((Below.refl _ _).alloc (Nat.le_refl _) _) (Nat.le_refl _)
    have HB4 := hid (HB2.out.trans ((hb3.trans (hb4.mono hb3.size)).mono HB2.out.size))
    have HB24 := hid (hb3.trans (hb4.mono hb3.size))
    have KR := run_dfa (hD.below hb4) s (by omega)
    rw [hdc] at KR
    have HKR := hid KR
    have HHD := hid hd4
    have HRUN := hid fun (R : Nat) (h : RunR L (LL s) R) => sets_run hS hA0 (LL s) h
    clear hb3 hb4 hd4 hS hA0 hD hno hcl hdc htags hto KR KB HTab KW
    rcases H1.out with rfl | ⟨r, rfl, hr⟩
    · obtain ⟨ro, rc, rfl⟩ := HR2.out.shape
      rw [HRUN.out 0 (run_none _)] at HKR
      go_wp2_with (first | (with_reducible refine wpList_made30 rfl rfl ?_) | (with_reducible refine wpList_store30 rfl (.tmp 7) (.tmp 29) rfl w3.heap.size rfl dvz dc HNB.out rfl dvz_size HS1.out HS2.out ?_))
      clear e4 HNB
      refine wp_load30 (.tmp 7) rfl w3.heap.size rfl dc HHD.out HS1.out ?_
      go_wp2_with fail
      refine HKR.out.mono ?_
      rintro e w5 ⟨rfl, hb5⟩
      have HB5 := hid (HB4.out.trans (hb5.mono HB4.out.size))
      clear hb5
      go_wp2_with fail
      go_ret
      exact ⟨rfl, HB5.out⟩
    · have hR4 := HR2.out
      rcases hR4.sh with ⟨_, h0⟩ | ⟨g, cap, rfl, hg, hgl, hc, hrep⟩
      · cases h0
      cases hrep with
      | cons _ _ _ _ k x y z u kv hrp c0 c1 c2 c3 c4 c5 h2 =>
      have HRP := hid hrp
      obtain ⟨ka, kx, ky, kz, ku, ko, kn, kc, hkv⟩ := hrp.shape
      obtain ⟨rfl, rfl, rfl, rfl, rfl, rfl⟩ : k = ka ∧ x = kx ∧ y = ky ∧ z = kz ∧ u = ku ∧ kv = .slice ko kn kc := by
        simpa [nodeV] using hkv
      have hg1 : g < w2.heap.size := hgl
      have h1r := run_one r (LL s)
      cases hm : X3.mtB r (LL s) with
      | true =>
        rw [hm, if_pos rfl] at h1r
        rw [HRUN.out 1 h1r] at HKR
        go_wp2_with (first | (with_reducible refine wpList_made30 rfl rfl ?_) | (with_reducible refine wpList_store30 rfl (.tmp 7) (.tmp 29) rfl w3.heap.size rfl dvz dc HNB.out rfl dvz_size HS1.out HS2.out ?_))
        clear e4 HNB
        refine wp_load30 (.tmp 7) rfl w3.heap.size rfl dc HHD.out HS1.out ?_
        go_wp2_with fail
        refine HKR.out.mono ?_
        rintro e w5 ⟨rfl, hb5⟩
        have HB5 := hid (HB4.out.trans (hb5.mono HB4.out.size))
        have HB25 := hid (HB24.out.trans (hb5.mono HB24.out.size))
        have hkeep := HB25.out.block g hg1
        have d0 := (World.cell?_of_block (a := ⟨g, 6 * 0, none⟩) hkeep).trans c0
        have d1 := (World.cell?_of_block (a := ⟨g, 6 * 0 + 1, none⟩) hkeep).trans c1
        have d2 := (World.cell?_of_block (a := ⟨g, 6 * 0 + 2, none⟩) hkeep).trans c2
        have d3 := (World.cell?_of_block (a := ⟨g, 6 * 0 + 3, none⟩) hkeep).trans c3
        have d4 := (World.cell?_of_block (a := ⟨g, 6 * 0 + 4, none⟩) hkeep).trans c4
        have d5 := (World.cell?_of_block (a := ⟨g, 6 * 0 + 5, none⟩) hkeep).trans c5
        simp only [Nat.mul_zero, Nat.zero_add] at d0 d1 d2 d3 d4 d5
        have HP5 := hid (HRP.out.kept (keepS_below HB25.out))
        have KM := RM.match_any _ w5 r _ s HP5.out (by omega) (by omega)
        rw [hm] at KM
        have KM := hid KM
        unfold nodeV at KM
        clear hb5 c0 c1 c2 c3 c4 c5 hkeep hgl hg hR4 h2
        go_wp2_with fail
        refine KM.out.mono ?_
        rintro e w6 ⟨rfl, hb6⟩
        have HB6 := hid (HB5.out.trans (hb6.mono HB5.out.size))
        clear hb6
        go_wp2_with fail
        go_ret
        exact ⟨rfl, HB6.out⟩
      | false =>
        rw [hm, if_neg (by decide)] at h1r
        rw [HRUN.out 0 h1r] at HKR
        go_wp2_with (first | (with_reducible refine wpList_made30 rfl rfl ?_) | (with_reducible refine wpList_store30 rfl (.tmp 7) (.tmp 29) rfl w3.heap.size rfl dvz dc HNB.out rfl dvz_size HS1.out HS2.out ?_))
        clear e4 HNB
        refine wp_load30 (.tmp 7) rfl w3.heap.size rfl dc HHD.out HS1.out ?_
        go_wp2_with fail
        refine HKR.out.mono ?_
        rintro e w5 ⟨rfl, hb5⟩
        have HB5 := hid (HB4.out.trans (hb5.mono HB4.out.size))
        have HB25 := hid (HB24.out.trans (hb5.mono HB24.out.size))
        have hkeep := HB25.out.block g hg1
        have d0 := (World.cell?_of_block (a := ⟨g, 6 * 0, none⟩) hkeep).trans c0
        have d1 := (World.cell?_of_block (a := ⟨g, 6 * 0 + 1, none⟩) hkeep).trans c1
        have d2 := (World.cell?_of_block (a := ⟨g, 6 * 0 + 2, none⟩) hkeep).trans c2
        have d3 := (World.cell?_of_block (a := ⟨g, 6 * 0 + 3, none⟩) hkeep).trans c3
        have d4 := (World.cell?_of_block (a := ⟨g, 6 * 0 + 4, none⟩) hkeep).trans c4
        have d5 := (World.cell?_of_block (a := ⟨g, 6 * 0 + 5, none⟩) hkeep).trans c5
        simp only [Nat.mul_zero, Nat.zero_add] at d0 d1 d2 d3 d4 d5
        have HP5 := hid (HRP.out.kept (keepS_below HB25.out))
        have KM := RM.match_any _ w5 r _ s HP5.out (by omega) (by omega)
        rw [hm] at KM
        have KM := hid KM
        unfold nodeV at KM
        clear hb5 c0 c1 c2 c3 c4 c5 hkeep hgl hg hR4 h2
        go_wp2_with fail
        refine KM.out.mono ?_
        rintro e w6 ⟨rfl, hb6⟩
        have HB6 := hid (HB5.out.trans (hb6.mono HB5.out.size))
        clear hb6
        go_wp2_with fail
        go_ret
        exact ⟨rfl, HB6.out⟩
end Go.Proofs.YtochckefnjobhaaDoor
