/- Items in order, each once. -/
import Derived.Test.YtjpbhbfklkipkaaDoorSg
namespace Go.Proofs.YtjpbhbfklkipkaaDoor
open Go Go.RowKit Go.Lib
open X14 (It Less Rise compX)
set_option linter.unusedVariables false
set_option linter.unusedSimpArgs false
def RisingP (g c : Nat) (l : List It) (w : World) (e : Ending) (w' : World) : Prop := ∃ l', Rise l' ∧ (∀ x, x ∈ l' ↔ x ∈ l) ∧ l'.length ≤ l.length ∧ e = .returned (.slice (some ⟨g, 0, none⟩) l'.length c) ∧ RowH w' g l' ∧ KeptX w.heap.size g w w'
set_option maxRecDepth 100000 in
set_option maxHeartbeats 4000000 in
theorem rising_any {w : World} {g c : Nat} {l : List It} (hR : RowH w g l) (hg : g < w.heap.size) (hc : l.length ≤ c) (hl : l.length ≤ 1000000) (hcc : c ≤ 9223372036854775807) :
    Calls Tryd.prog 46 #[.slice (some ⟨g, 0, none⟩) l.length c] w (RisingP g c l w) := by
  have K := hid (sort_any (c := c) hR hg (by omega))
  have HC := hid hc
  have HG := hid hg
  clear hR hg
  go_enter Tryd.func46, Tryd.ntmps46
  go_wp2_with fail
  refine K.out.mono ?_
  rintro e w1 ⟨rfl, l1, hm, hl1, ho, hr1, hk1⟩
  have K2 := hid (compact_any (c := c) hr1 (Nat.lt_of_lt_of_le HG.out hk1.size) (by omega) (by omega) hcc)
  rw [hl1] at K2
  have HP := hid (And.intro hm (And.intro hl1 (And.intro ho hk1)))
  clear hm hl1 ho hr1 hk1 K
  go_wp2_with fail
  refine K2.out.mono ?_
  rintro e w2 ⟨rfl, hr2, hk2⟩
  have HK := hid hk2
  have HR := hid hr2
  clear hr2 hk2 K2
  go_wp2_with fail
  go_ret
  refine ⟨compX l1, X14.compX_rise HP.out.2.2.1, fun x => (X14.compX_mem l1 x).trans (HP.out.1 x), ?_, rfl, HR.out, ?_⟩
  · rw [← HP.out.2.1]; exact X14.compX_len l1
  · have h1 := HP.out.2.2.2
    have h2 := HK.out
    exact h1.trans ⟨h2.os, h2.tape, h2.output, h2.size, fun q hq hne => h2.block q (Nat.lt_of_lt_of_le hq h1.size) hne⟩
end Go.Proofs.YtjpbhbfklkipkaaDoor
