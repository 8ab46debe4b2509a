/- Little; where a state goes, and what stands behind a symbol. -/
import Derived.Test.YticmnfmijdgmbaaGreatDoorTc
namespace Go.Proofs.YticmnfmijdgmbaaGreatDoor
open Go Go.RowKit Go.Lib
open X14 (It closeV closeX stepV stepX behX symsX iterB BuiltOk)
set_option linter.unusedVariables false
set_option linter.unusedSimpArgs false
def LittleP (w : World) (e : Ending) (w' : World) : Prop := ∃ b, e = .returned (.bool b) ∧ Below w.heap.size w w'
set_option maxRecDepth 100000 in
set_option maxHeartbeats 4000000 in
theorem Little_any {G : GD} {gv : Value} {w : World} (h : Gram w gv G) : Calls Tryz.prog 16 #[gv] w (LittleP w) := by
 have HGr := hid h
 obtain ⟨tv, ov, sv, pv, tf, rv, h⟩ := h
 have hgv := h.eq
 subst hgv
 have HRI := hid h.rights
 obtain ⟨pa, pc, rfl, hpn, hpc⟩ := h.prods
 obtain ⟨np, hnp⟩ : ∃ np, G.prods.length = np := ⟨_, rfl⟩
 have HNP := hid hnp
 have HPC := hid hpc
 rw [hnp] at HGr hpn ⊢
 obtain ⟨W1, e1⟩ : ∃ W1, w.alloc (.cells #[tv, ov, sv, .slice pa np pc, .int .i64 G.start] 27) = W1 := ⟨_, rfl⟩
 have hb1 : Below w.heap.size w W1 := by rw [← e1]; exact (Below.refl _ _).alloc (Nat.le_refl _) _
 have n1 : W1.heap[w.heap.size]? = some (.cells #[tv, ov, sv, .slice pa np pc, .int .i64 G.start] 27 (0, 0)) := by rw [← e1]; exact new_block _ _
 have HB1 := hid hb1
 have HN1 := hid n1
 obtain ⟨tv', ov', sv', pv', tf', rv', hg1⟩ := HGr.out.below hb1
 obtain ⟨fw, hfw⟩ : ∃ fw, decide (fewG G) = fw := ⟨_, rfl⟩
 have KF := few_any hg1
 rw [hfw] at KF
 have KF := hid KF
 have c0 : W1.cell? ⟨w.heap.size, 0, none⟩ = some tv := Lib.cell_of_heap n1 0
 have c1 : W1.cell? ⟨w.heap.size, 1, none⟩ = some ov := Lib.cell_of_heap n1 1
 have c2 : W1.cell? ⟨w.heap.size, 2, none⟩ = some sv := Lib.cell_of_heap n1 2
 have c3 : W1.cell? ⟨w.heap.size, 3, none⟩ = some (.slice pa np pc) := Lib.cell_of_heap n1 3
 have c4 : W1.cell? ⟨w.heap.size, 4, none⟩ = some (.int .i64 G.start) := Lib.cell_of_heap n1 4
 clear h hb1 n1 hg1 hnp hpc hfw
 go_enter Tryz.func16, Tryz.ntmps16
 go_wp2_with fail
 refine KF.out.mono ?_
 rintro e w2 ⟨rfl, hb2⟩
 have HB2 := hid (HB1.out.trans (hb2.mono HB1.out.size))
 have HN2 := hid ((hb2.block _ (Array.getElem?_eq_some_iff.1 HN1.out).1).trans HN1.out)
 have c3 : w2.cell? ⟨w.heap.size, 3, none⟩ = some (.slice pa np pc) := Lib.cell_of_heap HN2.out 3
 clear hb2 KF e1 c0 c1 c2 c4
 go_wp2_with fail
 go_loopw [4] (fun t4 wr => ∃ k : Nat, k ≤ np ∧ t4 = .int .i64 (k : Int) ∧ wr = w2) (fun t4 _ => np - (RowKit.intOf t4).toNat)
 case atStart => exact ⟨0, Nat.zero_le _, rfl, by first | trivial | rfl⟩
 case round =>
  obtain ⟨k, hk, rfl, hww⟩ := hrel
  subst hww
  by_cases hlt : k < np
  ·have t1 : (k : Int) < (np : Int) := by omega
   have t2 : (0 : Int) ≤ (k : Int) := by omega
   by_cases h15 : k < 15
   ·have t3 : (k : Int) < 15 := by omega
    obtain ⟨pb, po, rfl, hpq⟩ := HPC.out (by rw [HNP.out]; omega)
    have q2 := cell_below HB2.out (hpq k (by rw [HNP.out]; exact hlt)).2.2.1
    obtain ⟨⟨ra, rc, hrv, _⟩, _⟩ := HRI.out k (by rw [HNP.out]; exact hlt)
    rw [hrv] at q2
    generalize (G.prods.getD k default).rs.length = rl at *
    clear hpq hrv
    by_cases h5 : 5 < rl
    ·have t4 : (5 : Int) < (rl : Int) := by omega
     go_wp2_with fail
     go_ret
     exact ⟨_, rfl, HB2.out⟩
    ·have t4 : ¬ (5 : Int) < (rl : Int) := by omega
     go_wp2_with fail
     refine ⟨⟨k + 1, by omega, rfl, by first | trivial | rfl⟩, ?_⟩
     show np - ((k : Int) + 1).toNat < np - ((k : Int)).toNat
     omega
   ·have t3 : ¬ (k : Int) < 15 := by omega
    have t5 : ¬ (np : Int) ≤ 10 := by omega
    cases fw
    ·go_wp2_with fail
     go_ret
     exact ⟨_, rfl, HB2.out⟩
    ·go_wp2_with fail
     go_ret
     exact ⟨_, rfl, HB2.out⟩
  ·have t1 : ¬ (k : Int) < (np : Int) := by omega
   cases fw
   ·go_wp2_with fail
    go_ret
    exact ⟨_, rfl, HB2.out⟩
   ·by_cases h10 : np ≤ 10
    ·have t5 : (np : Int) ≤ 10 := by omega
     go_wp2_with fail
     go_ret
     exact ⟨_, rfl, HB2.out⟩
    ·have t5 : ¬ (np : Int) ≤ 10 := by omega
     go_wp2_with fail
     go_ret
     exact ⟨_, rfl, HB2.out⟩
end Go.Proofs.YticmnfmijdgmbaaGreatDoor
