/- dfa.Valid, of any automaton; Little. -/
import Derived.Test.YtochckefnjobhaaGreatDoorKh
import Derived.ChangeKeysEq
import Derived.DeepKeys
namespace Go.Proofs.X6
open X5 (Aut rowOf)
structure Vd (D : Aut) : Prop where
 ok : Ok D (rowOf D 0).length
 cls : ∀ c ∈ D.cls, 0 ≤ c ∧ c < ((rowOf D 0).length : Int)
def Lit (D : Aut) : Prop := D.next.length < 30 ∧ D.tags.length < 30 ∧ ∀ r ∈ D.next, r.length ≤ 20
end Go.Proofs.X6
namespace Go.Proofs.YtochckefnjobhaaGreatDoor
open Go Go.RowKit Go.Lib
open X5 (Aut)
set_option linter.unusedVariables false
set_option linter.unusedSimpArgs false
theorem index26i (cs : List Int) (hl : cs.length = 256) (k : Nat) (hk : k < 256) (w : World) : (Instr.index 22 (.agg (ivs cs)) (.int .i64 (k : Int))).run Tryz.prog w = .ok (.int .i64 (cs.getD k 0)) w := by
 have hv : cs[k]? = some (cs.getD k 0) := by
  rw [List.getElem?_eq_getElem (by omega), List.getD_eq_getElem?_getD, List.getElem?_eq_getElem (by omega)]
  rfl
 have h1 : (k : Int) < 256 := by omega
 generalize cs.getD k 0 = q at *
 simp [Instr.index, asIntOf, run_underlying Tryz.underlying22, part, agg3, sizeof3, hv, hk, h1, Result.andThen, Sem.run_bind]
theorem index26c (cv : Array Value) (cs : List Int) (hcv : ivs cs = cv) (hl : cs.length = 256) (k : Nat) (hk : k < 256) (w : World) : (Instr.index 22 (.agg cv) (.int .i64 (k : Int))).run Tryz.prog w = .ok (.int .i64 (cs.getD k 0)) w := by
 rw [← hcv]; exact index26i cs hl k hk w
def VP (D : Aut) (w : World) (e : Ending) (w' : World) : Prop := ∃ b : Bool, e = .returned (.bool b) ∧ (b = true ↔ X6.Vd D) ∧ Below w.heap.size w w'
set_option maxRecDepth 100000 in
set_option maxHeartbeats 8000000 in
theorem valid2_any {w : World} {nv tv : Value} {D : Aut} (h : DAt w nv tv D) (hN : D.next.length ≤ 1000000) (hT : D.tags.length ≤ 1000000) :
  Calls Tryz.prog 42 #[.agg (dval D nv tv)] w (VP D w) := by
 obtain ⟨cv, hcv⟩ : ∃ cv, ivs D.cls = cv := ⟨_, rfl⟩
 have hcs : cv.size = 256 := by rw [← hcv, ivs_size]; exact h.len
 obtain ⟨dc, hdc⟩ : ∃ dc, dval D nv tv = dc := ⟨_, rfl⟩
 have HD256 := hid (dcell_next h.len nv tv)
 have HD257 := hid (dcell_tags h.len nv tv)
 have hdv : cv ++ #[nv, tv] = dc := by rw [← hcv, ← hdc]
 rw [hdc] at HD256 HD257 ⊢
 obtain ⟨no, nc, hno⟩ : ∃ no nc, nv = .slice no D.next.length nc := by
  obtain ⟨ro, rc, e, _⟩ := h.rows
  exact ⟨ro, rc, e⟩
 obtain ⟨to, tc, hto⟩ : ∃ to tc, tv = .slice to D.tags.length tc := by
  obtain ⟨ro, rc, e, _⟩ := h.tags
  exact ⟨ro, rc, e⟩
 subst hno hto
 obtain ⟨wa, ea⟩ : ∃ wa, w.alloc (.cells dc 26) = wa := ⟨_, rfl⟩
 have hba : Below w.heap.size w wa := by rw [← ea]; exact (Below.refl _ _).alloc (Nat.le_refl _) _
 have hna : wa.heap[w.heap.size]? = some (.cells dc 26 (0, 0)) := by rw [← ea]; exact new_block _ _
 have c256 : wa.cell? ⟨w.heap.size, 256, none⟩ = some (.slice no D.next.length nc) := by rw [Lib.cell_of_heap hna]; exact HD256.out
 have c257 : wa.cell? ⟨w.heap.size, 257, none⟩ = some (.slice to D.tags.length tc) := by rw [Lib.cell_of_heap hna]; exact HD257.out
 have HDA := hid (h.below hba)
 have HNA := hid hna
 have HBA := hid hba
 have HCV := hid (And.intro hcv (And.intro hcs (And.intro hdv h.len)))
 have hshort := h.short
 clear h hcv hcs hdc hdv hba hna
 by_cases h0 : D.next.length = 0
 ·have g0 : ((D.next.length : Int) == 0) = true := by rw [beq_iff_eq]; omega
  have HF := hid (show ¬ X6.Vd D from fun hv => hv.ok.some_ (List.eq_nil_of_length_eq_zero h0))
  clear hshort
  go_enter Tryz.func42, Tryz.ntmps42
  go_wp2_with fail
  go_ret
  exact ⟨false, rfl, ⟨fun e => (by cases e), fun hv => absurd hv HF.out⟩, HBA.out⟩
 have g0 : ((D.next.length : Int) == 0) = false := by rw [beq_eq_false_iff_ne]; omega
 by_cases h1 : D.tags.length = D.next.length
 case neg =>
  have g1 : ((D.tags.length : Int) != (D.next.length : Int)) = true := by rw [bne_iff_ne]; omega
  have HF := hid (show ¬ X6.Vd D from fun hv => h1 hv.ok.tags)
  clear hshort
  go_enter Tryz.func42, Tryz.ntmps42
  go_wp2_with fail
  go_ret
  exact ⟨false, rfl, ⟨fun e => (by cases e), fun hv => absurd hv HF.out⟩, HBA.out⟩
 have g1 : ((D.tags.length : Int) != (D.next.length : Int)) = false := by rw [bne_eq_false_iff_eq]; omega
 have hl0 : 0 < D.next.length := by omega
 obtain ⟨bn, offn, ro, rc, nc', hno, hbn, cn, hrow⟩ := rowsAt_get HDA.out.rows (rowOf_get hl0)
 injection hno with hno1 hno2 hno3
 subst hno1
 obtain ⟨K, hK⟩ : ∃ K, (X5.rowOf D 0).length = K := ⟨_, rfl⟩
 rw [hK] at cn
 rw [Nat.add_zero] at cn
 have HK := hid hK
 have hKl : K ≤ maxLen := by rw [← hK]; exact hshort _ (List.mem_of_getElem? (rowOf_get hl0))
 unfold maxLen at hKl
 have HSH := hid hshort
 have HRW := hid (And.intro (show ∀ i, i < D.next.length → D.next[i]? = some (X5.rowOf D i) from fun i hi => rowOf_get hi) (And.intro h1 hl0))
 have g2 : (0 : Int) < (D.next.length : Int) := by omega
 obtain ⟨N, hN2⟩ : ∃ N, D.next.length = N := ⟨_, rfl⟩
 have HNN := hid hN2
 rw [hN2] at hN c256 g0 g1 g2 hl0 h1
 rw [h1] at g1 c257
 clear hno2 hno3 hrow hK hshort h0 h1
 go_enter Tryz.func42, Tryz.ntmps42
 go_wp2_with (with_reducible refine wpList_load26i rfl (.tmp 28) rfl w.heap.size rfl cv _ _ dc HCV.out.2.2.1 HNA.out HCV.out.2.1 ?_)
 go_loopw [30] (fun t30 wr => ∃ k : Nat, k ≤ 256 ∧ t30 = .int .i64 (k : Int) ∧ wr = wa ∧ Hid (∀ i, i < k → 0 ≤ D.cls.getD i 0 ∧ D.cls.getD i 0 < (K : Int))) (fun t30 _ => 256 - (RowKit.intOf t30).toNat)
 case atStart => exact ⟨0, by omega, rfl, by first | trivial | rfl, hid (fun i hi => by omega)⟩
 case round =>
  obtain ⟨k, hk, rfl, hw, HQ⟩ := hrel
  have hw := hw.symm
  subst hw
  by_cases hlt : k < 256
  ·have h3 : (k : Int) < 256 := by omega
   have h4 : (0 : Int) ≤ (k : Int) := by omega
   have hix := index26c cv D.cls HCV.out.1 HCV.out.2.2.2 k hlt wa
   obtain ⟨c, hc⟩ : ∃ c, D.cls.getD k 0 = c := ⟨_, rfl⟩
   rw [hc] at hix
   have HC := hid hc
   clear hc
   by_cases hc0 : c < 0
   ·have h5 : decide (c < 0) = true := by simpa using hc0
    have HF := hid (show ¬ X6.Vd D from fun hv => by
     have h8 := (hv.cls (D.cls.getD k 0) (X6.getD_mem (by rw [HCV.out.2.2.2]; exact hlt))).1
     rw [HC.out] at h8
     omega)
    go_wp2_with fail
    go_ret
    exact ⟨false, rfl, ⟨fun e => (by cases e), fun hv => absurd hv HF.out⟩, HBA.out⟩
   ·have h5 : decide (c < 0) = false := by simpa using hc0
    by_cases hc1 : c < (K : Int)
    ·have h6 : decide ((K : Int) ≤ c) = false := by simpa using hc1
     go_wp2_with fail
     refine ⟨⟨k + 1, by omega, rfl, by first | trivial | rfl, hid (fun i hi => ?_)⟩, ?_⟩
     ·by_cases hi2 : i < k
      ·exact HQ.out i hi2
      ·obtain rfl : i = k := by omega
       rw [HC.out]; omega
     ·show 256 - ((k : Int) + 1).toNat < 256 - ((k : Int)).toNat
      omega
    ·have h6 : decide ((K : Int) ≤ c) = true := by simpa using hc1
     have HF := hid (show ¬ X6.Vd D from fun hv => by
      have h8 := (hv.cls (D.cls.getD k 0) (X6.getD_mem (by rw [HCV.out.2.2.2]; exact hlt))).2
      rw [HC.out, HK.out] at h8
      omega)
     go_wp2_with fail
     go_ret
     exact ⟨false, rfl, ⟨fun e => (by cases e), fun hv => absurd hv HF.out⟩, HBA.out⟩
  ·have h3 : ¬ (k : Int) < 256 := by omega
   have HCls := hid (show ∀ c ∈ D.cls, 0 ≤ c ∧ c < (K : Int) from fun c hc => by
    obtain ⟨i, hi⟩ := List.mem_iff_getElem?.1 hc
    have hil := (List.getElem?_eq_some_iff.1 hi).1
    have := HQ.out i (by have := HCV.out.2.2.2; omega)
    rwa [List.getD_eq_getElem?_getD, hi] at this)
   go_wp2_with fail
   go_loopw [44] (fun t44 wr2 => ∃ i : Nat, i ≤ N ∧ t44 = .int .i64 (i : Int) ∧ wr2 = wa ∧ Hid (∀ j, j < i → (X5.rowOf D j).length = K ∧ ∀ z ∈ X5.rowOf D j, -1 ≤ z ∧ z < (N : Int))) (fun t44 _ => N - (RowKit.intOf t44).toNat)
   case atStart => exact ⟨0, by omega, rfl, by first | trivial | rfl, hid (fun i hi => by omega)⟩
   case round =>
    obtain ⟨i, hi, rfl, hw, HQ2⟩ := hrel
    have hw := hw.symm
    subst hw
    by_cases hil : i < N
    ·have h5 : (i : Int) < (N : Int) := by omega
     have h6 : (0 : Int) ≤ (i : Int) := by omega
     have hiD : i < D.next.length := by rw [HNN.out]; exact hil
     obtain ⟨bn2, offn2, ro2, rc2, nc2, hno, hbn2, cn2, hrow2⟩ := rowsAt_get HDA.out.rows (rowOf_get hiD)
     injection hno with hno1 hno2 hno3
     injection hno1 with hno1
     injection hno1 with hno1 hno4
     subst hno1 hno4
     obtain ⟨m, hm⟩ : ∃ m, (X5.rowOf D i).length = m := ⟨_, rfl⟩
     rw [hm] at cn2 hrow2
     have hml : m ≤ maxLen := by rw [← hm]; exact HSH.out _ (List.mem_of_getElem? (rowOf_get hiD))
     unfold maxLen at hml
     have HM := hid hm
     have HROW := hid hrow2
     clear hno2 hno3 hrow2 hm
     by_cases hmK : m = K
     ·have h7 : ((m : Int) != (K : Int)) = false := by rw [bne_eq_false_iff_eq]; omega
      have HMK := hid hmK
      go_wp2_with fail
      go_loopw [54] (fun t54 wr3 => ∃ j : Nat, j ≤ m ∧ t54 = .int .i64 (j : Int) ∧ wr3 = wa ∧ Hid (∀ l z, l < j → (X5.rowOf D i)[l]? = some z → -1 ≤ z ∧ z < (N : Int))) (fun t54 _ => m - (RowKit.intOf t54).toNat)
      case atStart => exact ⟨0, by omega, rfl, by first | trivial | rfl, hid (fun l z hl => by omega)⟩
      case round =>
       obtain ⟨j, hj, rfl, hw, HQ3⟩ := hrel
       have hw := hw.symm
       subst hw
       by_cases hjl : j < m
       ·have h8 : (j : Int) < (m : Int) := by omega
        have h9 : (0 : Int) ≤ (j : Int) := by omega
        obtain ⟨z, hz⟩ : ∃ z, (X5.rowOf D i)[j]? = some z := ⟨_, List.getElem?_eq_getElem (by rw [HM.out]; exact hjl)⟩
        obtain ⟨bj, offj, hro, hbj, cj⟩ := rowAt_get HROW.out hz
        subst hro
        have HZ := hid hz
        clear hz
        by_cases hz0 : z < -1
        ·have h10 : decide (z < -1) = true := by simpa using hz0
         have HF := hid (show ¬ X6.Vd D from fun hv => by
          have h8 := (hv.ok.ends i hiD z (List.mem_of_getElem? HZ.out)).1
          omega)
         go_wp2_with fail
         go_ret
         exact ⟨false, rfl, ⟨fun e => (by cases e), fun hv => absurd hv HF.out⟩, HBA.out⟩
        ·have h10 : decide (z < -1) = false := by simpa using hz0
         by_cases hz1 : z < (N : Int)
         ·have h11 : decide ((N : Int) ≤ z) = false := by simpa using hz1
          go_wp2_with fail
          refine ⟨⟨j + 1, by omega, rfl, by first | trivial | rfl, hid (fun l y hl hy => ?_)⟩, ?_⟩
          ·by_cases hl2 : l < j
           ·exact HQ3.out l y hl2 hy
           ·obtain rfl : l = j := by omega
            rw [HZ.out] at hy
            injection hy with hy
            omega
          ·show m - ((j : Int) + 1).toNat < m - ((j : Int)).toNat
           omega
         ·have h11 : decide ((N : Int) ≤ z) = true := by simpa using hz1
          have HF := hid (show ¬ X6.Vd D from fun hv => by
           have h8 := (hv.ok.ends i hiD z (List.mem_of_getElem? HZ.out)).2
           rw [HNN.out] at h8
           exact hz1 h8)
          go_wp2_with fail
          go_ret
          exact ⟨false, rfl, ⟨fun e => (by cases e), fun hv => absurd hv HF.out⟩, HBA.out⟩
       ·have h8 : ¬ (j : Int) < (m : Int) := by omega
        go_wp2_with fail
        refine ⟨⟨i + 1, by omega, rfl, by first | trivial | rfl, hid (fun l hl => ?_)⟩, ?_⟩
        ·by_cases hl2 : l < i
         ·exact HQ2.out l hl2
         ·obtain rfl : l = i := by omega
          refine ⟨by rw [HM.out]; exact hmK, fun z hz => ?_⟩
          obtain ⟨q, hq⟩ := List.mem_iff_getElem?.1 hz
          have := (List.getElem?_eq_some_iff.1 hq).1
          exact HQ3.out q z (by have := HM.out; omega) hq
        ·show N - ((i : Int) + 1).toNat < N - ((i : Int)).toNat
         omega
     ·have h7 : ((m : Int) != (K : Int)) = true := by rw [bne_iff_ne]; omega
      have HF := hid (show ¬ X6.Vd D from fun hv => by
       have h8 := hv.ok.rows i hiD
       rw [HM.out, HK.out] at h8
       exact hmK h8)
      go_wp2_with fail
      go_ret
      exact ⟨false, rfl, ⟨fun e => (by cases e), fun hv => absurd hv HF.out⟩, HBA.out⟩
    ·have h5 : ¬ (i : Int) < (N : Int) := by omega
     have HV := hid (show X6.Vd D from ⟨⟨fun e => by have := HNN.out; rw [e] at this; simp at this; omega, HRW.out.2.1, fun j hj => by rw [HK.out]; exact (HQ2.out j (by have := HNN.out; omega)).1, fun j hj => by rw [HNN.out]; exact (HQ2.out j (by have := HNN.out; omega)).2⟩, by rw [HK.out]; exact HCls.out⟩)
     go_wp2_with fail
     go_ret
     exact ⟨true, rfl, ⟨fun _ => HV.out, fun _ => rfl⟩, HBA.out⟩
end Go.Proofs.YtochckefnjobhaaGreatDoor
namespace Go.Proofs.YtochckefnjobhaaGreatDoor
open Go Go.RowKit Go.Lib
open X5 (Aut)
set_option linter.unusedVariables false
set_option linter.unusedSimpArgs false
theorem eqItems26 (d : Nat) (xs ys : List Int) (w : World) : ∀ is : List Nat, (∀ i ∈ is, i < xs.length ∧ i < ys.length) → (Op.eqItems (d + 1) 3 1 (ivs xs) (ivs ys) is).run Tryz.prog w = .ok (decide (∀ i ∈ is, xs[i]? = ys[i]?)) w
 | [], _ => by simp [Op.eqItems]
 | i :: is, h => by
  have h0 := h i (by simp)
  have e1 : (part 3 (ivs xs) (i * 1)).run Tryz.prog w = .ok (.int .i64 xs[i]) w := by
   simp [part, agg3, sizeof3, h0.1, Result.andThen, Sem.run_bind, ivs]
  have e2 : (part 3 (ivs ys) (i * 1)).run Tryz.prog w = .ok (.int .i64 ys[i]) w := by
   simp [part, agg3, sizeof3, h0.2, Result.andThen, Sem.run_bind, ivs]
  have e3 := run_equalIn_int (P := Tryz.prog) w d 3 .i64 .i64 xs[i] ys[i] Tryz.underlying3
  have ih := eqItems26 d xs ys w is (fun j hj => h j (by simp [hj]))
  simp only [Op.eqItems, Sem.run_bind, e1, e2, e3, Result.andThen_ok]
  by_cases he : xs[i] = ys[i]
  ·rw [show (xs[i] == ys[i]) = true by simpa using he]
   simp only [Bool.not_true, Bool.false_eq_true, if_false]
   rw [ih]
   have e : decide (∀ j ∈ is, xs[j]? = ys[j]?) = decide (∀ j ∈ i :: is, xs[j]? = ys[j]?) := by
    rw [decide_eq_decide]
    constructor
    ·intro h1 j hj
     rcases List.mem_cons.1 hj with rfl | hj
     ·rw [List.getElem?_eq_getElem h0.1, List.getElem?_eq_getElem h0.2, he]
     ·exact h1 j hj
    ·intro h1 j hj
     exact h1 j (List.mem_cons_of_mem _ hj)
   rw [e]
  ·rw [show (xs[i] == ys[i]) = false by simpa using he]
   have e : decide (∀ j ∈ i :: is, xs[j]? = ys[j]?) = false := by
    rw [decide_eq_false_iff_not]
    intro h1
    have := h1 i (by simp)
    rw [List.getElem?_eq_getElem h0.1, List.getElem?_eq_getElem h0.2] at this
    exact he (Option.some.inj this)
   rw [e]
   rfl
theorem eq26 (xs ys : List Int) (hx : xs.length = 256) (hy : ys.length = 256) (w : World) : (Op.equalIn 10000 22 (.agg (ivs xs)) (.agg (ivs ys))).run Tryz.prog w = .ok (decide (xs = ys)) w := by
 have h := eqItems26 9998 xs ys w (List.range 256) (fun i hi => by rw [List.mem_range] at hi; omega)
 obtain ⟨i0, hi, _⟩ := info_parts info3
 have hr := run_equalIn_array (P := Tryz.prog) w 9999 (ivs xs) (ivs ys) Tryz.underlying22 hi
 have c1 : Tryz.prog.cellsOf 3 = 1 := by kernel_rfl
 rw [c1] at hr
 refine (show _ = _ from hr).trans ((show _ = _ from h).trans ?_)
 have e : decide (∀ i ∈ List.range 256, xs[i]? = ys[i]?) = decide (xs = ys) := by
  rw [decide_eq_decide]
  refine ⟨fun ha => ?_, fun he j _ => by rw [he]⟩
  refine List.ext_getElem? fun j => ?_
  by_cases hj : j < 256
  ·exact ha j (List.mem_range.2 hj)
  ·rw [List.getElem?_eq_none (by omega), List.getElem?_eq_none (by omega)]
 rw [e]
theorem eql26 (xs ys : List Int) (hx : xs.length = 256) (hy : ys.length = 256) (cx cy : Array Value) (ex : ivs xs = cx) (ey : ivs ys = cy) (w : World) : (Op.equalIn 10000 22 (.agg cx) (.agg cy)).run Tryz.prog w = .ok (decide (xs = ys)) w := by
 subst ex ey
 exact eq26 xs ys hx hy w
end Go.Proofs.YtochckefnjobhaaGreatDoor
namespace Go.Proofs.YtochckefnjobhaaGreatDoor
open Go Go.RowKit Go.Lib
open X5 (Aut)
set_option linter.unusedVariables false
set_option linter.unusedSimpArgs false
theorem rowI_shape {w : World} {v : Value} {l : List Int} (h : RowAtI w v l) : ∃ o c, v = .slice o l.length c := by
 obtain ⟨o, c, e, _⟩ := h
 exact ⟨o, c, e⟩
theorem tags_shape {w : World} {v : Value} {l : List Nat} (h : TagsAt w v l) : ∃ o c, v = .slice o l.length c := by
 obtain ⟨o, c, e, _⟩ := h
 exact ⟨o, c, e⟩
theorem rows_shape {w : World} {v : Value} {l : List (List Int)} (h : RowsAt w v l) : ∃ o c, v = .slice o l.length c := by
 obtain ⟨o, c, e, _⟩ := h
 exact ⟨o, c, e⟩
theorem list_eq_of {α : Type} {a b : List α} (hl : a.length = b.length) (h : ∀ (i : Nat) x y, a[i]? = some x → b[i]? = some y → x = y) : a = b := by
 refine List.ext_getElem? fun i => ?_
 by_cases hi : i < a.length
 ·rw [List.getElem?_eq_getElem hi, List.getElem?_eq_getElem (by omega)]
  rw [h i a[i] b[i] (List.getElem?_eq_getElem hi) (List.getElem?_eq_getElem (by omega))]
 ·rw [List.getElem?_eq_none (by omega), List.getElem?_eq_none (by omega)]
set_option maxRecDepth 100000 in
set_option maxHeartbeats 4000000 in
theorem eqInts_any {w : World} {v u : Value} {a b : List Int} (ha : RowAtI w v a) (hb : RowAtI w u b) (hl : a.length ≤ maxLen) :
  Calls Tryz.prog 54 #[v, u] w fun e w' => e = .returned (.bool (decide (a = b))) ∧ Below w.heap.size w w' := by
 obtain ⟨ao, ac, rfl⟩ := rowI_shape ha
 obtain ⟨bo, bc, rfl⟩ := rowI_shape hb
 have HA := hid ha
 have HB := hid hb
 unfold maxLen at hl
 obtain ⟨n, hn⟩ : ∃ n, a.length = n := ⟨_, rfl⟩
 obtain ⟨m, hm⟩ : ∃ m, b.length = m := ⟨_, rfl⟩
 rw [hn] at hl
 have HN := hid (And.intro hn hm)
 by_cases hnm : n = m
 case neg =>
  have g1 : ((n : Int) != (m : Int)) = true := by rw [bne_iff_ne]; omega
  have e : decide (a = b) = false := by rw [decide_eq_false_iff_not]; intro e; exact hnm (by rw [← hn, ← hm, e])
  rw [e, hn, hm]
  clear ha hb hn hm e
  go_enter Tryz.func54, Tryz.ntmps54
  go_wp2_with fail
  go_ret
  exact ⟨rfl, Below.refl _ _⟩
 subst hnm
 have g1 : ((n : Int) != (n : Int)) = false := by rw [bne_eq_false_iff_eq]
 obtain ⟨r, hr⟩ : ∃ r, decide (a = b) = r := ⟨_, rfl⟩
 rw [hr, hn, hm]
 have HR := hid hr
 clear ha hb hn hm hr
 go_enter Tryz.func54, Tryz.ntmps54
 go_wp2_with fail
 go_loopw [13] (fun t13 wr => ∃ k : Nat, k ≤ n ∧ t13 = .int .i64 (k : Int) ∧ Hid (Below w.heap.size w wr) ∧ Hid (∀ i x y, i < k → a[i]? = some x → b[i]? = some y → x = y)) (fun t13 _ => n - (RowKit.intOf t13).toNat)
 case atStart => exact ⟨0, Nat.zero_le _, rfl, hid (Below.refl _ _), hid (fun i x y hi => by omega)⟩
 case round =>
  obtain ⟨k, hk, rfl, HW, HQ⟩ := hrel
  by_cases hlt : k < n
  ·have h1 : (k : Int) < (n : Int) := by omega
   have h2 : (0 : Int) ≤ (k : Int) := by omega
   obtain ⟨x, hx⟩ : ∃ x, a[k]? = some x := ⟨_, List.getElem?_eq_getElem (by have := HN.out.1; omega)⟩
   obtain ⟨y, hy⟩ : ∃ y, b[k]? = some y := ⟨_, List.getElem?_eq_getElem (by have := HN.out.2; omega)⟩
   obtain ⟨bx, ox, ex, hbx, cx⟩ := rowAt_get HA.out hx
   obtain ⟨by_, oy, ey, hby, cy⟩ := rowAt_get HB.out hy
   subst ex ey
   have cx' := cell_bel HW.out hbx cx
   have cy' := cell_bel HW.out hby cy
   have HX := hid (And.intro hx hy)
   clear cx cy hx hy
   by_cases he : x = y
   ·have g2 : (x != y) = false := by rw [bne_eq_false_iff_eq]; exact he
    have HE := hid he
    clear he
    go_wp2_with fail
    go_quiet (fail)
    go_wp2_with fail
    refine ⟨⟨k + 1, by omega, rfl, hid (below_drewN HW.out _), hid (fun i p q hi hp hq => ?_)⟩, ?_⟩
    ·by_cases hi2 : i < k
     ·exact HQ.out i p q hi2 hp hq
     ·obtain rfl : i = k := by omega
      rw [HX.out.1] at hp
      rw [HX.out.2] at hq
      injection hp with hp
      injection hq with hq
      rw [← hp, ← hq]; exact HE.out
    ·show n - ((k : Int) + 1).toNat < n - ((k : Int)).toNat
     omega
   ·have g2 : (x != y) = true := by rw [bne_iff_ne]; exact he
    have HF := hid (show r = false from by
     rw [← HR.out, decide_eq_false_iff_not]
     intro e
     rw [e] at HX
     have h9 := HX.out.1
     rw [HX.out.2] at h9
     exact he (Option.some.inj h9).symm)
    go_wp2_with fail
    go_quiet (fail)
    go_wp2_with fail
    go_ret
    exact ⟨by rw [HF.out]; rfl, below_drewN HW.out _⟩
  ·have h1 : ¬ (k : Int) < (n : Int) := by omega
   have HF := hid (show r = true from by
    rw [← HR.out, decide_eq_true_iff]
    refine list_eq_of (by rw [HN.out.1, HN.out.2]) fun i x y hx hy => HQ.out i x y ?_ hx hy
    have := (List.getElem?_eq_some_iff.1 hx).1
    have := HN.out.1
    omega)
   go_wp2_with fail
   go_ret
   exact ⟨by rw [HF.out]; rfl, HW.out⟩
set_option maxRecDepth 100000 in
set_option maxHeartbeats 4000000 in
theorem eqTags_any {w : World} {v u : Value} {a b : List Nat} (ha : TagsAt w v a) (hb : TagsAt w u b) (hl : a.length ≤ maxLen) :
  Calls Tryz.prog 55 #[v, u] w fun e w' => e = .returned (.bool (decide (a = b))) ∧ Below w.heap.size w w' := by
 obtain ⟨ao, ac, rfl⟩ := tags_shape ha
 obtain ⟨bo, bc, rfl⟩ := tags_shape hb
 have HA := hid ha
 have HB := hid hb
 unfold maxLen at hl
 obtain ⟨n, hn⟩ : ∃ n, a.length = n := ⟨_, rfl⟩
 obtain ⟨m, hm⟩ : ∃ m, b.length = m := ⟨_, rfl⟩
 rw [hn] at hl
 have HN := hid (And.intro hn hm)
 by_cases hnm : n = m
 case neg =>
  have g1 : ((n : Int) != (m : Int)) = true := by rw [bne_iff_ne]; omega
  have e : decide (a = b) = false := by rw [decide_eq_false_iff_not]; intro e; exact hnm (by rw [← hn, ← hm, e])
  rw [e, hn, hm]
  clear ha hb hn hm e
  go_enter Tryz.func55, Tryz.ntmps55
  go_wp2_with fail
  go_ret
  exact ⟨rfl, Below.refl _ _⟩
 subst hnm
 have g1 : ((n : Int) != (n : Int)) = false := by rw [bne_eq_false_iff_eq]
 obtain ⟨r, hr⟩ : ∃ r, decide (a = b) = r := ⟨_, rfl⟩
 rw [hr, hn, hm]
 have HR := hid hr
 clear ha hb hn hm hr
 go_enter Tryz.func55, Tryz.ntmps55
 go_wp2_with fail
 go_loopw [13] (fun t13 wr => ∃ k : Nat, k ≤ n ∧ t13 = .int .i64 (k : Int) ∧ Hid (Below w.heap.size w wr) ∧ Hid (∀ i x y, i < k → a[i]? = some x → b[i]? = some y → x = y)) (fun t13 _ => n - (RowKit.intOf t13).toNat)
 case atStart => exact ⟨0, Nat.zero_le _, rfl, hid (Below.refl _ _), hid (fun i x y hi => by omega)⟩
 case round =>
  obtain ⟨k, hk, rfl, HW, HQ⟩ := hrel
  by_cases hlt : k < n
  ·have h1 : (k : Int) < (n : Int) := by omega
   have h2 : (0 : Int) ≤ (k : Int) := by omega
   obtain ⟨x, hx⟩ : ∃ x, a[k]? = some x := ⟨_, List.getElem?_eq_getElem (by have := HN.out.1; omega)⟩
   obtain ⟨y, hy⟩ : ∃ y, b[k]? = some y := ⟨_, List.getElem?_eq_getElem (by have := HN.out.2; omega)⟩
   obtain ⟨bx, ox, rx, ex, hbx, cx, _⟩ := tagsAt_get HA.out hx
   obtain ⟨by_, oy, ry, ey, hby, cy, _⟩ := tagsAt_get HB.out hy
   injection ex with ex ex2 ex3
   injection ey with ey ey2 ey3
   subst ex ey
   clear ex2 ex3 ey2 ey3
   have cx' := cell_bel HW.out hbx cx
   have cy' := cell_bel HW.out hby cy
   have HX := hid (And.intro hx hy)
   clear cx cy hx hy
   by_cases he : x = y
   ·have g2 : ((x : Int) != (y : Int)) = false := by rw [bne_eq_false_iff_eq]; omega
    have HE := hid he
    clear he
    go_wp2_with fail
    go_quiet (fail)
    go_wp2_with fail
    refine ⟨⟨k + 1, by omega, rfl, hid (below_drewN HW.out _), hid (fun i p q hi hp hq => ?_)⟩, ?_⟩
    ·by_cases hi2 : i < k
     ·exact HQ.out i p q hi2 hp hq
     ·obtain rfl : i = k := by omega
      rw [HX.out.1] at hp
      rw [HX.out.2] at hq
      injection hp with hp
      injection hq with hq
      rw [← hp, ← hq]; exact HE.out
    ·show n - ((k : Int) + 1).toNat < n - ((k : Int)).toNat
     omega
   ·have g2 : ((x : Int) != (y : Int)) = true := by rw [bne_iff_ne]; omega
    have HF := hid (show r = false from by
     rw [← HR.out, decide_eq_false_iff_not]
     intro e
     rw [e] at HX
     have h9 := HX.out.1
     rw [HX.out.2] at h9
     exact he (Option.some.inj h9).symm)
    go_wp2_with fail
    go_quiet (fail)
    go_wp2_with fail
    go_ret
    exact ⟨by rw [HF.out]; rfl, below_drewN HW.out _⟩
  ·have h1 : ¬ (k : Int) < (n : Int) := by omega
   have HF := hid (show r = true from by
    rw [← HR.out, decide_eq_true_iff]
    refine list_eq_of (by rw [HN.out.1, HN.out.2]) fun i x y hx hy => HQ.out i x y ?_ hx hy
    have := (List.getElem?_eq_some_iff.1 hx).1
    have := HN.out.1
    omega)
   go_wp2_with fail
   go_ret
   exact ⟨by rw [HF.out]; rfl, HW.out⟩
set_option maxRecDepth 100000 in
set_option maxHeartbeats 4000000 in
theorem eqRows_any {w : World} {v u : Value} {a b : List (List Int)} (ha : RowsAt w v a) (hb : RowsAt w u b) (hl : a.length ≤ maxLen) (hs : ∀ l ∈ a, l.length ≤ maxLen) :
  Calls Tryz.prog 53 #[v, u, .func (.func 54) #[] #[]] w fun e w' => e = .returned (.bool (decide (a = b))) ∧ Below w.heap.size w w' := by
 obtain ⟨ao, ac, rfl⟩ := rows_shape ha
 obtain ⟨bo, bc, rfl⟩ := rows_shape hb
 have HA := hid ha
 have HB := hid hb
 have HSH := hid hs
 unfold maxLen at hl
 obtain ⟨n, hn⟩ : ∃ n, a.length = n := ⟨_, rfl⟩
 obtain ⟨m, hm⟩ : ∃ m, b.length = m := ⟨_, rfl⟩
 rw [hn] at hl
 have HN := hid (And.intro hn hm)
 by_cases hnm : n = m
 case neg =>
  have g1 : ((n : Int) != (m : Int)) = true := by rw [bne_iff_ne]; omega
  have e : decide (a = b) = false := by rw [decide_eq_false_iff_not]; intro e; exact hnm (by rw [← hn, ← hm, e])
  rw [e, hn, hm]
  clear ha hb hn hm e hs
  go_enter Tryz.func53, Tryz.ntmps53
  go_wp2_with fail
  go_ret
  exact ⟨rfl, Below.refl _ _⟩
 subst hnm
 have g1 : ((n : Int) != (n : Int)) = false := by rw [bne_eq_false_iff_eq]
 obtain ⟨r, hr⟩ : ∃ r, decide (a = b) = r := ⟨_, rfl⟩
 rw [hr, hn, hm]
 have HR := hid hr
 clear ha hb hn hm hr hs
 go_enter Tryz.func53, Tryz.ntmps53
 go_wp2_with fail
 go_loopw [17] (fun t17 wr => ∃ k : Nat, k ≤ n ∧ t17 = .int .i64 (k : Int) ∧ Hid (Below w.heap.size w wr) ∧ Hid (∀ (i : Nat) x y, i < k → a[i]? = some x → b[i]? = some y → x = y)) (fun t17 _ => n - (RowKit.intOf t17).toNat)
 case atStart => exact ⟨0, Nat.zero_le _, rfl, hid (Below.refl _ _), hid (fun i x y hi => by omega)⟩
 case round =>
  obtain ⟨k, hk, rfl, HW, HQ⟩ := hrel
  by_cases hlt : k < n
  ·have h1 : (k : Int) < (n : Int) := by omega
   have h2 : (0 : Int) ≤ (k : Int) := by omega
   obtain ⟨x, hx⟩ : ∃ x, a[k]? = some x := ⟨_, List.getElem?_eq_getElem (by have := HN.out.1; omega)⟩
   obtain ⟨y, hy⟩ : ∃ y, b[k]? = some y := ⟨_, List.getElem?_eq_getElem (by have := HN.out.2; omega)⟩
   obtain ⟨bx, ox, xo, xc, rx, ex, hbx, cx, hrx⟩ := rowsAt_get HA.out hx
   obtain ⟨by_, oy, yo, yc, ry, ey, hby, cy, hry⟩ := rowsAt_get HB.out hy
   injection ex with ex ex2 ex3
   injection ey with ey ey2 ey3
   subst ex ey
   clear ex2 ex3 ey2 ey3
   have cx' := cell_bel HW.out hbx cx
   have cy' := cell_bel HW.out hby cy
   have HX := hid (And.intro hx hy)
   have KE := hid (eqInts_any (hrx.below HW.out) (hry.below HW.out) (HSH.out x (List.mem_of_getElem? hx)))
   clear cx cy hx hy hrx hry
   obtain ⟨q, hq⟩ : ∃ q, decide (x = y) = q := ⟨_, rfl⟩
   rw [hq] at KE
   have HQQ := hid hq
   clear hq
   go_wp2_with fail
   refine KE.out.mono ?_
   rintro e w5 ⟨rfl, hb5⟩
   have HW5 := hid (HW.out.trans (hb5.mono HW.out.size))
   clear hb5 KE
   cases q with
   | true =>
    go_wp2_with fail
    refine ⟨⟨k + 1, by omega, rfl, HW5, hid (fun i p q hi hp hq => ?_)⟩, ?_⟩
    ·by_cases hi2 : i < k
     ·exact HQ.out i p q hi2 hp hq
     ·obtain rfl : i = k := by omega
      rw [HX.out.1] at hp
      rw [HX.out.2] at hq
      injection hp with hp
      injection hq with hq
      rw [← hp, ← hq]; exact of_decide_eq_true HQQ.out
    ·show n - ((k : Int) + 1).toNat < n - ((k : Int)).toNat
     omega
   | false =>
    have HF := hid (show r = false from by
     rw [← HR.out, decide_eq_false_iff_not]
     intro e
     rw [e] at HX
     have h9 := HX.out.1
     rw [HX.out.2] at h9
     exact of_decide_eq_false HQQ.out (Option.some.inj h9).symm)
    go_wp2_with fail
    go_ret
    exact ⟨by rw [HF.out]; rfl, HW5.out⟩
  ·have h1 : ¬ (k : Int) < (n : Int) := by omega
   have HF := hid (show r = true from by
    rw [← HR.out, decide_eq_true_iff]
    refine list_eq_of (by rw [HN.out.1, HN.out.2]) fun i x y hx hy => HQ.out i x y ?_ hx hy
    have := (List.getElem?_eq_some_iff.1 hx).1
    have := HN.out.1
    omega)
   go_wp2_with fail
   go_ret
   exact ⟨by rw [HF.out]; rfl, HW.out⟩
def sameX (D E : Aut) : Bool := decide (D.cls = E.cls) && (decide (D.next = E.next) && decide (D.tags = E.tags))
theorem sameX_eq {D E : Aut} : sameX D E = true ↔ D = E := by
 unfold sameX
 rw [Bool.and_eq_true, Bool.and_eq_true, decide_eq_true_iff, decide_eq_true_iff, decide_eq_true_iff]
 constructor
 ·rintro ⟨h1, h2, h3⟩
  cases D; cases E
  simp only at h1 h2 h3
  subst h1 h2 h3
  rfl
 ·rintro rfl; exact ⟨rfl, rfl, rfl⟩
set_option maxRecDepth 100000 in
set_option maxHeartbeats 4000000 in
theorem same_any {w : World} {nv tv nu tu : Value} {D E : Aut} (h : DAt w nv tv D) (g : DAt w nu tu E) :
  Calls Tryz.prog 23 #[.agg (dval D nv tv), .agg (dval E nu tu)] w fun e w' => e = .returned (.bool (sameX D E)) ∧ Below w.heap.size w w' := by
 obtain ⟨cv, hcv⟩ : ∃ cv, ivs D.cls = cv := ⟨_, rfl⟩
 obtain ⟨cu, hcu⟩ : ∃ cu, ivs E.cls = cu := ⟨_, rfl⟩
 have hcs : cv.size = 256 := by rw [← hcv, ivs_size]; exact h.len
 have hus : cu.size = 256 := by rw [← hcu, ivs_size]; exact g.len
 obtain ⟨dc, hdc⟩ : ∃ dc, dval D nv tv = dc := ⟨_, rfl⟩
 obtain ⟨du, hdu⟩ : ∃ du, dval E nu tu = du := ⟨_, rfl⟩
 have HD256 := hid (dcell_next h.len nv tv)
 have HD257 := hid (dcell_tags h.len nv tv)
 have HU256 := hid (dcell_next g.len nu tu)
 have HU257 := hid (dcell_tags g.len nu tu)
 have hdv : cv ++ #[nv, tv] = dc := by rw [← hcv, ← hdc]
 have hduv : cu ++ #[nu, tu] = du := by rw [← hcu, ← hdu]
 rw [hdc] at HD256 HD257
 rw [hdu] at HU256 HU257
 rw [hdc, hdu]
 obtain ⟨wa, ea⟩ : ∃ wa, w.alloc (.cells dc 26) = wa := ⟨_, rfl⟩
 obtain ⟨wb, eb⟩ : ∃ wb, wa.alloc (.cells du 26) = wb := ⟨_, rfl⟩
 have hba : Below w.heap.size w wa := by rw [← ea]; exact (Below.refl _ _).alloc (Nat.le_refl _) _
 have hbb : Below wa.heap.size wa wb := by rw [← eb]; exact (Below.refl _ _).alloc (Nat.le_refl _) _
 have hsa : wa.heap.size = w.heap.size + 1 := by rw [← ea]; simp
 have hna : wb.heap[w.heap.size]? = some (.cells dc 26 (0, 0)) := (hbb.block _ (by omega)).trans (by rw [← ea]; exact new_block _ _)
 have hnb : wb.heap[wa.heap.size]? = some (.cells du 26 (0, 0)) := by rw [← eb]; exact new_block _ _
 have hbab : Below w.heap.size w wb := hba.trans (hbb.mono hba.size)
 have hd := h.below hbab
 have hg := g.below hbab
 obtain ⟨no, nc, rfl⟩ := rows_shape h.rows
 obtain ⟨to, tc, rfl⟩ := tags_shape h.tags
 obtain ⟨mo, mc, rfl⟩ := rows_shape g.rows
 obtain ⟨uo, uc, rfl⟩ := tags_shape g.tags
 have c1 : wb.cell? ⟨w.heap.size, 256, none⟩ = some (.slice no D.next.length nc) := by rw [Lib.cell_of_heap hna]; exact HD256.out
 have c2 : wb.cell? ⟨wa.heap.size, 256, none⟩ = some (.slice mo E.next.length mc) := by rw [Lib.cell_of_heap hnb]; exact HU256.out
 have hE := eql26 D.cls E.cls h.len g.len cv cu hcv hcu wb
 have HNA := hid (And.intro hna hnb)
 have HD := hid hd
 have HG := hid hg
 have HB := hid hbab
 have HC := hid (And.intro hcs (And.intro hus (And.intro hdv hduv)))
 have KR := hid (eqRows_any hd.rows hg.rows hd.few.1 hd.short)
 obtain ⟨b1, hb1⟩ : ∃ b1, decide (D.cls = E.cls) = b1 := ⟨_, rfl⟩
 obtain ⟨b2, hb2⟩ : ∃ b2, decide (D.next = E.next) = b2 := ⟨_, rfl⟩
 obtain ⟨b3, hb3⟩ : ∃ b3, decide (D.tags = E.tags) = b3 := ⟨_, rfl⟩
 have HB3 := hid hb3
 have hsx : sameX D E = (b1 && (b2 && b3)) := by unfold sameX; rw [hb1, hb2, hb3]
 rw [hb1] at hE
 rw [hb2] at KR
 rw [hsx]
 clear h g hcv hcu hcs hus hdc hdu hdv hduv hba hbb hna hnb hbab hd hg hb1 hb2 hb3 hsx hsa
 cases b1 with
 | false =>
  go_enter Tryz.func23, Tryz.ntmps23
  go_wp2_with (first | (with_reducible refine wpList_load26i rfl (.tmp 5) rfl w.heap.size rfl cv _ _ dc HC.out.2.2.1 HNA.out.1 HC.out.1 ?_) | (with_reducible refine wpList_load26i rfl (.tmp 7) rfl wa.heap.size rfl cu _ _ du HC.out.2.2.2 HNA.out.2 HC.out.2.1 ?_))
  go_ret
  exact ⟨rfl, HB.out⟩
 | true =>
  cases b2 with
  | false =>
   go_enter Tryz.func23, Tryz.ntmps23
   go_wp2_with (first | (with_reducible refine wpList_load26i rfl (.tmp 5) rfl w.heap.size rfl cv _ _ dc HC.out.2.2.1 HNA.out.1 HC.out.1 ?_) | (with_reducible refine wpList_load26i rfl (.tmp 7) rfl wa.heap.size rfl cu _ _ du HC.out.2.2.2 HNA.out.2 HC.out.2.1 ?_))
   refine KR.out.mono ?_
   rintro e w5 ⟨rfl, hb5⟩
   have HW5 := hid (HB.out.trans (hb5.mono HB.out.size))
   clear hb5
   go_wp2_with fail
   go_ret
   exact ⟨rfl, HW5.out⟩
  | true =>
   go_enter Tryz.func23, Tryz.ntmps23
   go_wp2_with (first | (with_reducible refine wpList_load26i rfl (.tmp 5) rfl w.heap.size rfl cv _ _ dc HC.out.2.2.1 HNA.out.1 HC.out.1 ?_) | (with_reducible refine wpList_load26i rfl (.tmp 7) rfl wa.heap.size rfl cu _ _ du HC.out.2.2.2 HNA.out.2 HC.out.2.1 ?_))
   refine KR.out.mono ?_
   rintro e w5 ⟨rfl, hb5⟩
   have HW5 := hid (HB.out.trans (hb5.mono HB.out.size))
   have c3 : w5.cell? ⟨w.heap.size, 257, none⟩ = some (.slice to D.tags.length tc) := cell_grow hb5 (by rw [Lib.cell_of_heap HNA.out.1]; exact HD257.out)
   have c4 : w5.cell? ⟨wa.heap.size, 257, none⟩ = some (.slice uo E.tags.length uc) := cell_grow hb5 (by rw [Lib.cell_of_heap HNA.out.2]; exact HU257.out)
   have KT := eqTags_any (HD.out.below hb5).tags (HG.out.below hb5).tags HD.out.few.2
   rw [HB3.out] at KT
   have KT := hid KT
   clear hb5
   go_wp2_with fail
   refine KT.out.mono ?_
   rintro e w6 ⟨rfl, hb6⟩
   have HW6 := hid (HW5.out.trans (hb6.mono HW5.out.size))
   clear hb6
   cases b3 with
   | true =>
    go_wp2_with fail
    go_ret
    exact ⟨rfl, HW6.out⟩
   | false =>
    go_wp2_with fail
    go_ret
    exact ⟨rfl, HW6.out⟩
end Go.Proofs.YtochckefnjobhaaGreatDoor
