/- The document's example of package word holds. -/
import Derived.Test.YtonofnjgefoieaaDoorCi
namespace Go.Proofs.YtonofnjgefoieaaDoor
open Go Go.RowKit Go.Lib Go.Proofs.W8
set_option linter.unusedVariables false

abbrev exS : ByteArray := { data := #[116, 101, 114, 109, 32, 105, 102, 32, 47, 105, 102, 47, 32, 35, 32, 97, 32, 119, 111, 114, 100] }
abbrev exW : List Wd := [⟨0, [116, 101, 114, 109], 0, 0⟩, ⟨0, [105, 102], 0, 5⟩, ⟨3, [105, 102], 0, 8⟩, ⟨4, [], 0, 21⟩]

theorem ex_words : words exS.data.toList = (exW, 0, 0) := by decide +kernel
theorem ex_quote : quoteV ({ data := #[97, 47, 98] } : ByteArray).data.toList = .tuple #[.string { data := #[47, 97, 92, 47, 98, 47] }, .bool true] := by
  have : qt [97, 47, 98] = some [97, 92, 47, 98, 47] := by decide +kernel
  show quoteV [97, 47, 98] = _
  unfold quoteV
  rw [this]; rfl

set_option maxRecDepth 100000 in
set_option maxHeartbeats 2000000 in
theorem word_works (w : World) : Calls Tryd.prog 9 #[] w fun e w' => e = .returned (.bool true) ∧ Below w.heap.size w w' := by
  have kw := hid fun w => Words_any exS w (by decide)
  rw [ex_words] at kw
  have kq := hid fun w => Quote_any { data := #[97, 47, 98] } w (by decide)
  rw [ex_quote] at kq
  have k1 : Hid (∀ w : World, Calls Tryd.prog 13 #[.string { data := #[97, 95, 49] }] w fun e w' => e = .returned (.bool true) ∧ Below w.heap.size w w') := by
    intro w
    have h : isName ({ data := #[97, 95, 49] } : ByteArray).data.toList = true := by decide +kernel
    have := IsName_any { data := #[97, 95, 49] } w (by decide)
    rw [h] at this; exact this
  have k2 : Hid (∀ w : World, Calls Tryd.prog 13 #[.string { data := #[49, 97] }] w fun e w' => e = .returned (.bool false) ∧ Below w.heap.size w w') := by
    intro w
    have h : isName ({ data := #[49, 97] } : ByteArray).data.toList = false := by decide +kernel
    have := IsName_any { data := #[49, 97] } w (by decide)
    rw [h] at this; exact this
  go_enter Tryd.func9, Tryd.ntmps9
  go_wp2_with fail
  refine (kw.out _).mono ?_
  rintro e w1 ⟨v, rfl, hr, hb1⟩
  obtain ⟨g, cap, rfl, hB, hc, hcm, hcell⟩ := hr.at (by simp)
  have hg : g < w1.heap.size := (hr.lt g rfl).2
  have c0 := hcell 0 (by decide) 0 (by decide)
  have c5 := hcell 1 (by decide) 1 (by decide)
  have c8 := hcell 2 (by decide) 0 (by decide)
  have c9 := hcell 2 (by decide) 1 (by decide)
  have c12 := hcell 3 (by decide) 0 (by decide)
  simp [wc1, bs] at c0 c5 c8 c9 c12
  simp at hc
  clear hcell hr
  go_wp2_with fail
  refine (kq.out _).mono ?_
  rintro e w2 ⟨rfl, hb2⟩
  have d0 : w2.cell? ⟨g, 0, none⟩ = _ := (hb2.cell (p := ⟨g, 0, none⟩) hg).trans c0
  have d5 : w2.cell? ⟨g, 5, none⟩ = _ := (hb2.cell (p := ⟨g, 5, none⟩) hg).trans c5
  have d8 : w2.cell? ⟨g, 8, none⟩ = _ := (hb2.cell (p := ⟨g, 8, none⟩) hg).trans c8
  have d9 : w2.cell? ⟨g, 9, none⟩ = _ := (hb2.cell (p := ⟨g, 9, none⟩) hg).trans c9
  have d12 : w2.cell? ⟨g, 12, none⟩ = _ := (hb2.cell (p := ⟨g, 12, none⟩) hg).trans c12
  have hbw := hb1.trans (hb2.mono hb1.size)
  clear c0 c5 c8 c9 c12 hb1 hb2
  go_wp2_with fail
  refine (k1.out _).mono ?_
  rintro e w3 ⟨rfl, hb3⟩
  go_wp2_with fail
  refine (k2.out _).mono ?_
  rintro e w4 ⟨rfl, hb4⟩
  go_wp2_with fail
  go_ret
  exact ⟨rfl, (hbw.trans (hb3.mono hbw.size)).trans (hb4.mono (Nat.le_trans hbw.size hb3.size))⟩

end Go.Proofs.YtonofnjgefoieaaDoor
