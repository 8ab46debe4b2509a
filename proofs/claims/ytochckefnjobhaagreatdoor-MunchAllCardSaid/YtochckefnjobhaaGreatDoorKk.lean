/- dfa.Valid, of any automaton; Little. -/
import Derived.Test.YtochckefnjobhaaGreatDoorKh
import Derived.ChangeKeysEq
import Derived.DeepKeys
namespace Go.Proofs.X6
open X5 (Aut rowOf)
structure Vd (D : Aut) : Prop where
 ok : Ok D (rowOf D 0).length
 cls : ∀ c ∈ D.cls, 0 ≤ c ∧ c < ((rowOf D 0).length : Int)
def Lit (D : Aut) : Prop := D.next.length < 30 ∧ D.tags.length < 30 ∧ ∀ r ∈ D.next, r.length ≤ 20
end Go.Proofs.X6
namespace Go.Proofs.YtochckefnjobhaaGreatDoor
open Go Go.RowKit Go.Lib
open X5 (Aut)
set_option linter.unusedVariables false
set_option linter.unusedSimpArgs false
theorem index26i (cs : List Int) (hl : cs.length = 256) (k : Nat) (hk : k < 256) (w : World) : (Instr.index 22 (.agg (ivs cs)) (.int .i64 (k : Int))).run Tryz.prog w = .ok (.int .i64 (cs.getD k 0)) w := by
 have hv : cs[k]? = some (cs.getD k 0) := by
  rw [List.getElem?_eq_getElem (by omega), List.getD_eq_getElem?_getD, List.getElem?_eq_getElem (by omega)]
  rfl
 have h1 : (k : Int) < 256 := by omega
 generalize cs.getD k 0 = q at *
 simp [Instr.index, asIntOf, run_underlying Tryz.underlying22, part, agg3, sizeof3, hv, hk, h1, Result.andThen, Sem.run_bind]
theorem index26c (cv : Array Value) (cs : List Int) (hcv : ivs cs = cv) (hl : cs.length = 256) (k : Nat) (hk : k < 256) (w : World) : (Instr.index 22 (.agg cv) (.int .i64 (k : Int))).run Tryz.prog w = .ok (.int .i64 (cs.getD k 0)) w := by
 rw [← hcv]; exact index26i cs hl k hk w
def VP (D : Aut) (w : World) (e : Ending) (w' : World) : Prop := ∃ b : Bool, e = .returned (.bool b) ∧ (b = true ↔ X6.Vd D) ∧ Below w.heap.size w w'
set_option maxRecDepth 100000 in
set_option maxHeartbeats 8000000 in
theorem valid2_any {w : World} {nv tv : Value} {D : Aut} (h : DAt w nv tv D) (hN : D.next.length ≤ 1000000) (hT : D.tags.length ≤ 1000000) :
  Calls Tryz.prog 42 #[.agg (dval D nv tv)] w (VP D w) := by
 obtain ⟨cv, hcv⟩ : ∃ cv, ivs D.cls = cv := ⟨_, rfl⟩
 have hcs : cv.size = 256 := by rw [← hcv, ivs_size]; exact h.len
 obtain ⟨dc, hdc⟩ : ∃ dc, dval D nv tv = dc := ⟨_, rfl⟩
 have HD256 := hid (dcell_next h.len nv tv)
 have HD257 := hid (dcell_tags h.len nv tv)
 have hdv : cv ++ #[nv, tv] = dc := by rw [← hcv, ← hdc]
 rw [hdc] at HD256 HD257 ⊢
 obtain ⟨no, nc, hno⟩ : ∃ no nc, nv = .slice no D.next.length nc := by
  obtain ⟨ro, rc, e, _⟩ := h.rows
  exact ⟨ro, rc, e⟩
 obtain ⟨to, tc, hto⟩ : ∃ to tc, tv = .slice to D.tags.length tc := by
  obtain ⟨ro, rc, e, _⟩ := h.tags
  exact ⟨ro, rc, e⟩
 subst hno hto
 obtain ⟨wa, ea⟩ : ∃ wa, w.alloc (.cells dc 26) = wa := ⟨_, rfl⟩
 have hba : Below w.heap.size w wa := by rw [← ea]; exact (Below.refl _ _).alloc (Nat.le_refl _) _
 have hna : wa.heap[w.heap.size]? = some (.cells dc 26 (0, 0)) := by rw [← ea]; exact new_block _ _
 have c256 : wa.cell? ⟨w.heap.size, 256, none⟩ = some (.slice no D.next.length nc) := by rw [Lib.cell_of_heap hna]; exact HD256.out
 have c257 : wa.cell? ⟨w.heap.size, 257, none⟩ = some (.slice to D.tags.length tc) := by rw [Lib.cell_of_heap hna]; exact HD257.out
 have HDA := hid (h.below hba)
 have HNA := hid hna
 have HBA := hid hba
 have HCV := hid (And.intro hcv (And.intro hcs (And.intro hdv h.len)))
 have hshort := h.short
 clear h hcv hcs hdc hdv hba hna
 by_cases h0 : D.next.length = 0
 ·have g0 : ((D.next.length : Int) == 0) = true := by rw [beq_iff_eq]; omega
  have HF := hid (show ¬ X6.Vd D from fun hv => hv.ok.some_ (List.eq_nil_of_length_eq_zero h0))
  clear hshort
  go_enter Tryz.func42, Tryz.ntmps42
  go_wp2_with fail
  go_ret
  exact ⟨false, rfl, ⟨fun e => (by cases e), fun hv => absurd hv HF.out⟩, HBA.out⟩
 have g0 : ((D.next.length : Int) == 0) = false := by rw [beq_eq_false_iff_ne]; omega
 by_cases h1 : D.tags.length = D.next.length
 case neg =>
  have g1 : ((D.tags.length : Int) != (D.next.length : Int)) = true := by rw [bne_iff_ne]; omega
  have HF := hid (show ¬ X6.Vd D from fun hv => h1 hv.ok.tags)
  clear hshort
  go_enter Tryz.func42, Tryz.ntmps42
  go_wp2_with fail
  go_ret
  exact ⟨false, rfl, ⟨fun e => (by cases e), fun hv => absurd hv HF.out⟩, HBA.out⟩
 have g1 : ((D.tags.length : Int) != (D.next.length : Int)) = false := by rw [bne_eq_false_iff_eq]; omega
 have hl0 : 0 < D.next.length := by omega
 obtain ⟨bn, offn, ro, rc, nc', hno, hbn, cn, hrow⟩ := rowsAt_get HDA.out.rows (rowOf_get hl0)
 injection hno with hno1 hno2 hno3
 subst hno1
 obtain ⟨K, hK⟩ : ∃ K, (X5.rowOf D 0).length = K := ⟨_, rfl⟩
 rw [hK] at cn
 rw [Nat.add_zero] at cn
 have HK := hid hK
 have hKl : K ≤ maxLen := by rw [← hK]; exact hshort _ (List.mem_of_getElem? (rowOf_get hl0))
 unfold maxLen at hKl
 have HSH := hid hshort
 have HRW := hid (And.intro (show ∀ i, i < D.next.length → D.next[i]? = some (X5.rowOf D i) from fun i hi => rowOf_get hi) (And.intro h1 hl0))
 have g2 : (0 : Int) < (D.next.length : Int) := by omega
 obtain ⟨N, hN2⟩ : ∃ N, D.next.length = N := ⟨_, rfl⟩
 have HNN := hid hN2
 rw [hN2] at hN c256 g0 g1 g2 hl0 h1
 rw [h1] at g1 c257
 clear hno2 hno3 hrow hK hshort h0 h1
 go_enter Tryz.func42, Tryz.ntmps42
 go_wp2_with (with_reducible refine wpList_load26i rfl (.tmp 28) rfl w.heap.size rfl cv _ _ dc HCV.out.2.2.1 HNA.out HCV.out.2.1 ?_)
 go_loopw [30] (fun t30 wr => ∃ k : Nat, k ≤ 256 ∧ t30 = .int .i64 (k : Int) ∧ wr = wa ∧ Hid (∀ i, i < k → 0 ≤ D.cls.getD i 0 ∧ D.cls.getD i 0 < (K : Int))) (fun t30 _ => 256 - (RowKit.intOf t30).toNat)
 case atStart => exact ⟨0, by omega, rfl, by first | trivial | rfl, hid (fun i hi => by omega)⟩
 case round =>
  obtain ⟨k, hk, rfl, hw, HQ⟩ := hrel
  have hw := hw.symm
  subst hw
  by_cases hlt : k < 256
  ·have h3 : (k : Int) < 256 := by omega
   have h4 : (0 : Int) ≤ (k : Int) := by omega
   have hix := index26c cv D.cls HCV.out.1 HCV.out.2.2.2 k hlt wa
   obtain ⟨c, hc⟩ : ∃ c, D.cls.getD k 0 = c := ⟨_, rfl⟩
   rw [hc] at hix
   have HC := hid hc
   clear hc
   by_cases hc0 : c < 0
   ·have h5 : decide (c < 0) = true := by simpa using hc0
    have HF := hid (show ¬ X6.Vd D from fun hv => by
     have h8 := (hv.cls (D.cls.getD k 0) (X6.getD_mem (by rw [HCV.out.2.2.2]; exact hlt))).1
     rw [HC.out] at h8
     omega)
    go_wp2_with fail
    go_ret
    exact ⟨false, rfl, ⟨fun e => (by cases e), fun hv => absurd hv HF.out⟩, HBA.out⟩
   ·have h5 : decide (c < 0) = false := by simpa using hc0
    by_cases hc1 : c < (K : Int)
    ·have h6 : decide ((K : Int) ≤ c) = false := by simpa using hc1
     go_wp2_with fail
     refine ⟨⟨k + 1, by omega, rfl, by first | trivial | rfl, hid (fun i hi => ?_)⟩, ?_⟩
     ·by_cases hi2 : i < k
      ·exact HQ.out i hi2
      ·obtain rfl : i = k := by omega
       rw [HC.out]; omega
     ·show 256 - ((k : Int) + 1).toNat < 256 - ((k : Int)).toNat
      omega
    ·have h6 : decide ((K : Int) ≤ c) = true := by simpa using hc1
     have HF := hid (show ¬ X6.Vd D from fun hv => by
      have h8 := (hv.cls (D.cls.getD k 0) (X6.getD_mem (by rw [HCV.out.2.2.2]; exact hlt))).2
      rw [HC.out, HK.out] at h8
      omega)
     go_wp2_with fail
     go_ret
     exact ⟨false, rfl, ⟨fun e => (by cases e), fun hv => absurd hv HF.out⟩, HBA.out⟩
  ·have h3 : ¬ (k : Int) < 256 := by omega
   have HCls := hid (show ∀ c ∈ D.cls, 0 ≤ c ∧ c < (K : Int) from fun c hc => by
    obtain ⟨i, hi⟩ := List.mem_iff_getElem?.1 hc
    have hil := (List.getElem?_eq_some_iff.1 hi).1
    have := HQ.out i (by have := HCV.out.2.2.2; omega)
    rwa [List.getD_eq_getElem?_getD, hi] at this)
   go_wp2_with fail
   go_loopw [44] (fun t44 wr2 => ∃ i : Nat, i ≤ N ∧ t44 = .int .i64 (i : Int) ∧ wr2 = wa ∧ Hid (∀ j, j < i → (X5.rowOf D j).length = K ∧ ∀ z ∈ X5.rowOf D j, -1 ≤ z ∧ z < (N : Int))) (fun t44 _ => N - (RowKit.intOf t44).toNat)
   case atStart => exact ⟨0, by omega, rfl, by first | trivial | rfl, hid (fun i hi => by omega)⟩
   case round =>
    obtain ⟨i, hi, rfl, hw, HQ2⟩ := hrel
    have hw := hw.symm
    subst hw
    by_cases hil : i < N
    ·have h5 : (i : Int) < (N : Int) := by omega
     have h6 : (0 : Int) ≤ (i : Int) := by omega
     have hiD : i < D.next.length := by rw [HNN.out]; exact hil
     obtain ⟨bn2, offn2, ro2, rc2, nc2, hno, hbn2, cn2, hrow2⟩ := rowsAt_get HDA.out.rows (rowOf_get hiD)
     injection hno with hno1 hno2 hno3
     injection hno1 with hno1
     injection hno1 with hno1 hno4
     subst hno1 hno4
     obtain ⟨m, hm⟩ : ∃ m, (X5.rowOf D i).length = m := ⟨_, rfl⟩
     rw [hm] at cn2 hrow2
     have hml : m ≤ maxLen := by rw [← hm]; exact HSH.out _ (List.mem_of_getElem? (rowOf_get hiD))
     unfold maxLen at hml
     have HM := hid hm
     have HROW := hid hrow2
     clear hno2 hno3 hrow2 hm
     by_cases hmK : m = K
     ·have h7 : ((m : Int) != (K : Int)) = false := by rw [bne_eq_false_iff_eq]; omega
      have HMK := hid hmK
      go_wp2_with fail
      go_loopw [54] (fun t54 wr3 => ∃ j : Nat, j ≤ m ∧ t54 = .int .i64 (j : Int) ∧ wr3 = wa ∧ Hid (∀ l z, l < j → (X5.rowOf D i)[l]? = some z → -1 ≤ z ∧ z < (N : Int))) (fun t54 _ => m - (RowKit.intOf t54).toNat)
      case atStart => exact ⟨0, by omega, rfl, by first | trivial | rfl, hid (fun l z hl => by omega)⟩
      case round =>
       obtain ⟨j, hj, rfl, hw, HQ3⟩ := hrel
       have hw := hw.symm
       subst hw
       by_cases hjl : j < m
       ·have h8 : (j : Int) < (m : Int) := by omega
        have h9 : (0 : Int) ≤ (j : Int) := by omega
        obtain ⟨z, hz⟩ : ∃ z, (X5.rowOf D i)[j]? = some z := ⟨_, List.getElem?_eq_getElem (by rw [HM.out]; exact hjl)⟩
        obtain ⟨bj, offj, hro, hbj, cj⟩ := rowAt_get HROW.out hz
        subst hro
        have HZ := hid hz
        clear hz
        by_cases hz0 : z < -1
        ·have h10 : decide (z < -1) = true := by simpa using hz0
         have HF := hid (show ¬ X6.Vd D from fun hv => by
          have h8 := (hv.ok.ends i hiD z (List.mem_of_getElem? HZ.out)).1
          omega)
         go_wp2_with fail
         go_ret
         exact ⟨false, rfl, ⟨fun e => (by cases e), fun hv => absurd hv HF.out⟩, HBA.out⟩
        ·have h10 : decide (z < -1) = false := by simpa using hz0
         by_cases hz1 : z < (N : Int)
         ·have h11 : decide ((N : Int) ≤ z) = false := by simpa using hz1
          go_wp2_with fail
          refine ⟨⟨j + 1, by omega, rfl, by first | trivial | rfl, hid (fun l y hl hy => ?_)⟩, ?_⟩
          ·by_cases hl2 : l < j
           ·exact HQ3.out l y hl2 hy
           ·obtain rfl : l = j := by omega
            rw [HZ.out] at hy
            injection hy with hy
            omega
          ·show m - ((j : Int) + 1).toNat < m - ((j : Int)).toNat
           omega
         ·have h11 : decide ((N : Int) ≤ z) = true := by simpa using hz1
          have HF := hid (show ¬ X6.Vd D from fun hv => by
           have h8 := (hv.ok.ends i hiD z (List.mem_of_getElem? HZ.out)).2
           rw [HNN.out] at h8
           exact hz1 h8)
          go_wp2_with fail
          go_ret
          exact ⟨false, rfl, ⟨fun e => (by cases e), fun hv => absurd hv HF.out⟩, HBA.out⟩
       ·have h8 : ¬ (j : Int) < (m : Int) := by omega
        go_wp2_with fail
        refine ⟨⟨i + 1, by omega, rfl, by first | trivial | rfl, hid (fun l hl => ?_)⟩, ?_⟩
        ·by_cases hl2 : l < i
         ·exact HQ2.out l hl2
         ·obtain rfl : l = i := by omega
          refine ⟨by rw [HM.out]; exact hmK, fun z hz => ?_⟩
          obtain ⟨q, hq⟩ := List.mem_iff_getElem?.1 hz
          have := (List.getElem?_eq_some_iff.1 hq).1
          exact HQ3.out q z (by have := HM.out; omega) hq
        ·show N - ((i : Int) + 1).toNat < N - ((i : Int)).toNat
         omega
     ·have h7 : ((m : Int) != (K : Int)) = true := by rw [bne_iff_ne]; omega
      have HF := hid (show ¬ X6.Vd D from fun hv => by
       have h8 := hv.ok.rows i hiD
       rw [HM.out, HK.out] at h8
       exact hmK h8)
      go_wp2_with fail
      go_ret
      exact ⟨false, rfl, ⟨fun e => (by cases e), fun hv => absurd hv HF.out⟩, HBA.out⟩
    ·have h5 : ¬ (i : Int) < (N : Int) := by omega
     have HV := hid (show X6.Vd D from ⟨⟨fun e => by have := HNN.out; rw [e] at this; simp at this; omega, HRW.out.2.1, fun j hj => by rw [HK.out]; exact (HQ2.out j (by have := HNN.out; omega)).1, fun j hj => by rw [HNN.out]; exact (HQ2.out j (by have := HNN.out; omega)).2⟩, by rw [HK.out]; exact HCls.out⟩)
     go_wp2_with fail
     go_ret
     exact ⟨true, rfl, ⟨fun _ => HV.out, fun _ => rfl⟩, HBA.out⟩
end Go.Proofs.YtochckefnjobhaaGreatDoor
namespace Go.Proofs.YtochckefnjobhaaGreatDoor
open Go Go.RowKit Go.Lib
open X5 (Aut)
set_option linter.unusedVariables false
set_option linter.unusedSimpArgs false
end Go.Proofs.YtochckefnjobhaaGreatDoor
namespace Go.Proofs.YtochckefnjobhaaGreatDoor
open Go Go.RowKit Go.Lib
open X5 (Aut)
set_option linter.unusedVariables false
set_option linter.unusedSimpArgs false
theorem tags_shape {w : World} {v : Value} {l : List Nat} (h : TagsAt w v l) : ∃ o c, v = .slice o l.length c := by
 obtain ⟨o, c, e, _⟩ := h
 exact ⟨o, c, e⟩
theorem rows_shape {w : World} {v : Value} {l : List (List Int)} (h : RowsAt w v l) : ∃ o c, v = .slice o l.length c := by
 obtain ⟨o, c, e, _⟩ := h
 exact ⟨o, c, e⟩
end Go.Proofs.YtochckefnjobhaaGreatDoor
