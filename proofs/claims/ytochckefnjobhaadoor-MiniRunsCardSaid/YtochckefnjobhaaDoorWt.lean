/- Texts that are handed in, opened. -/
import Derived.SliceStrings
import Derived.OpenShut
import Derived.ChangeSame
import Derived.Test.YtochckefnjobhaaDoorWf
namespace Go.Proofs.YtochckefnjobhaaDoor
open Go Go.RowKit Go.Lib Go.WideShapes Go.ChangeShapes
set_option linter.unusedVariables false

theorem block_lt {w : World} {a : Addr} {v : Value} (h : w.cell? a = some v) : a.block < w.heap.size := Nat.lt_of_not_le fun h' => by
  simp [World.cell?, Array.getElem?_eq_none h'] at h

set_option maxRecDepth 100000 in
theorem open_texts {H : Type} {enc : TypeId × Value → H} {w : World} {base : Nat} {spare : Nat → Bool} {held : Bool} {r : Reach} {b0 : Nat} {v : Value} {d : DataW H} {ps : List MemPlace}
    (hval : Value.okWide Tryd.prog w r b0 22 v) (h : DataW.Trod enc Tryd.prog w base spare held 22 v d ps) : ∃ l, TextsAt w v l := by
  obtain ⟨a0, len, cap, rfl⟩ := okWide_slice Tryd.underlying22 hval
  obtain ⟨fuel, hf⟩ := h
  rcases open_strings Tryd.underlying22 Tryd.underlying9 (by kernel_rfl) hf with ⟨hv, _⟩ | ⟨a, len', cap', ss, hv, _, hlc, hcm, hln, _, hcell, hle⟩
  · have e : Value.slice a0 len cap = .slice none 0 0 := by simpa [Value.cells] using hv
    rw [e]
    exact ⟨[], ⟨⟨none, 0, rfl, fun j hj => absurd hj (by simp)⟩, by simp, by unfold maxLen; simp⟩⟩
  · have e : Value.slice a0 len cap = .slice (some a) len' cap' := by simpa [Value.cells] using hv
    rw [e]
    have hlen : len' ≤ ss.length := by rw [hln]; split <;> omega
    have hl : (ss.take len').length = len' := by simp; omega
    refine ⟨ss.take len', ⟨⟨some a, cap', by rw [hl], fun j hj => ?_⟩, fun s hs => hle s (List.mem_of_mem_take hs), by rw [hl]; omega⟩⟩
    rw [hl] at hj
    have hc := hcell j (by omega)
    obtain ⟨b, off, spot⟩ := a
    have hsp : spot = none := by
      have := World.cell?_spot (hcell 0 (by omega))
      simpa [Addr.add] using this
    subst hsp
    have e1 : (⟨b, off, none⟩ : Addr).add j = ⟨b, off + j, none⟩ := by
      by_cases h0 : j = 0
      · subst h0; simp [Addr.add]
      · simp [Addr.add, h0]
    rw [e1] at hc
    refine ⟨b, off, rfl, block_lt hc, ?_⟩
    rw [List.getElem_take]
    rw [hc, List.getD_eq_getElem?_getD, List.getElem?_eq_getElem (by omega)]
    rfl
end Go.Proofs.YtochckefnjobhaaDoor
