/- Little; mini.Live. -/
import Derived.Test.YtochckefnjobhaaGreatDoorAKn
namespace Go.Proofs.YtochckefnjobhaaGreatDoor
open Go Go.RowKit Go.Lib
open X5 (Aut)
set_option linter.unusedVariables false
set_option linter.unusedSimpArgs false
def LitP (D : Aut) (w : World) (e : Ending) (w' : World) : Prop := ∃ b : Bool, e = .returned (.bool b) ∧ (b = true ↔ X6.Lit D) ∧ Below w.heap.size w w'
set_option maxRecDepth 100000 in
set_option maxHeartbeats 4000000 in
theorem little_any {w : World} {nv tv : Value} {D : Aut} (h : DAt w nv tv D) : Calls Tryz.prog 12 #[.agg (dval D nv tv)] w (LitP D w) := by
 obtain ⟨dc, hdc⟩ : ∃ dc, dval D nv tv = dc := ⟨_, rfl⟩
 have HD256 := hid (dcell_next h.len nv tv)
 have HD257 := hid (dcell_tags h.len nv tv)
 rw [hdc] at HD256 HD257 ⊢
 obtain ⟨no, nc, rfl⟩ := rows_shape h.rows
 obtain ⟨to, tc, rfl⟩ := tags_shape h.tags
 obtain ⟨wa, ea⟩ : ∃ wa, w.alloc (.cells dc 26) = wa := ⟨_, rfl⟩
 have hba : Below w.heap.size w wa := by rw [← ea]; exact (Below.refl _ _).alloc (Nat.le_refl _) _
 have hna : wa.heap[w.heap.size]? = some (.cells dc 26 (0, 0)) := by rw [← ea]; exact new_block _ _
 have c256 : wa.cell? ⟨w.heap.size, 256, none⟩ = some (.slice no D.next.length nc) := by rw [Lib.cell_of_heap hna]; exact HD256.out
 have c257 : wa.cell? ⟨w.heap.size, 257, none⟩ = some (.slice to D.tags.length tc) := by rw [Lib.cell_of_heap hna]; exact HD257.out
 have HDA := hid (h.below hba)
 have HBA := hid hba
 have hfew := h.few
 unfold maxLen at hfew
 have HSH := hid h.short
 obtain ⟨n, hn⟩ : ∃ n, D.next.length = n := ⟨_, rfl⟩
 obtain ⟨m, hm⟩ : ∃ m, D.tags.length = m := ⟨_, rfl⟩
 rw [hn] at c256
 rw [hm] at c257
 rw [hn, hm] at hfew
 have HN := hid (And.intro hn hm)
 clear h hdc hba hna hn hm
 go_enter Tryz.func12, Tryz.ntmps12
 go_wp2_with fail
 go_loopw [3] (fun t3 wr => ∃ i : Nat, i ≤ 30 ∧ i ≤ n ∧ t3 = .int .i64 (i : Int) ∧ wr = wa ∧ Hid (∀ (j : Nat) r, j < i → D.next[j]? = some r → r.length ≤ 20)) (fun t3 _ => 30 - (RowKit.intOf t3).toNat)
 case atStart => exact ⟨0, by omega, by omega, rfl, by first | trivial | rfl, hid (fun j r hj => by omega)⟩
 case round =>
  obtain ⟨i, hi, hin, rfl, hw, HQ⟩ := hrel
  have hw := hw.symm
  subst hw
  by_cases h1 : i < n
  ·have g1 : decide ((i : Int) < (n : Int)) = true := by simpa using h1
   by_cases h2 : i < 30
   ·have g2 : decide ((i : Int) < 30) = true := by simp; omega
    obtain ⟨r, hr⟩ : ∃ r, D.next[i]? = some r := ⟨_, List.getElem?_eq_getElem (by have := HN.out.1; omega)⟩
    obtain ⟨bn, offn, ro, rc, nc', hno, hbn, cn, _⟩ := rowsAt_get HDA.out.rows hr
    injection hno with hno1 hno2 hno3
    subst hno1
    have g3 : (0 : Int) ≤ (i : Int) := by omega
    have g4 : (i : Int) < (n : Int) := by omega
    have hrl := HSH.out r (List.mem_of_getElem? hr)
    unfold maxLen at hrl
    obtain ⟨q, hq⟩ : ∃ q, r.length = q := ⟨_, rfl⟩
    rw [hq] at cn hrl
    have HR := hid (And.intro hr hq)
    clear hno2 hno3 hr hq
    by_cases h3 : 20 < q
    ·have g5 : (20 : Int) < (q : Int) := by omega
     have HF := hid (show ¬ X6.Lit D from fun hl => by have := hl.2.2 r (List.mem_of_getElem? HR.out.1); have := HR.out.2; omega)
     go_wp2_with fail
     go_ret
     exact ⟨false, rfl, ⟨fun e => (by cases e), fun hv => absurd hv HF.out⟩, HBA.out⟩
    ·have g5 : ¬ (20 : Int) < (q : Int) := by omega
     have H3 := hid h3
     clear h3
     go_wp2_with fail
     refine ⟨⟨i + 1, by omega, by omega, rfl, by first | trivial | rfl, hid (fun j x hj hx => ?_)⟩, ?_⟩
     ·by_cases hj2 : j < i
      ·exact HQ.out j x hj2 hx
      ·obtain rfl : j = i := by omega
       rw [HR.out.1] at hx
       injection hx with hx
       have := HR.out.2
       have := H3.out
       rw [← hx]; omega
     ·show 30 - ((i : Int) + 1).toNat < 30 - ((i : Int)).toNat
      omega
   ·have g2 : decide ((i : Int) < 30) = false := by simp; omega
    have g6 : decide ((n : Int) < 30) = false := by simp; omega
    have HF := hid (show ¬ X6.Lit D from fun hl => by have := hl.1; have := HN.out.1; omega)
    go_wp2_with fail
    go_ret
    exact ⟨false, rfl, ⟨fun e => (by cases e), fun hv => absurd hv HF.out⟩, HBA.out⟩
  ·have g1 : decide ((i : Int) < (n : Int)) = false := by simpa using h1
   by_cases h2 : n < 30
   ·have g2 : decide ((n : Int) < 30) = true := by simp; omega
    obtain ⟨b, hb⟩ : ∃ b, decide ((m : Int) < 30) = b := ⟨_, rfl⟩
    have HB := hid (show b = true ↔ X6.Lit D from by
     rw [← hb, decide_eq_true_iff]
     have e1 := HN.out.1
     have e2 := HN.out.2
     constructor
     ·intro hm30
      refine ⟨by omega, by omega, fun r hr => ?_⟩
      obtain ⟨j, hj⟩ := List.mem_iff_getElem?.1 hr
      have := (List.getElem?_eq_some_iff.1 hj).1
      exact HQ.out j r (by omega) hj
     ·intro hl
      have := hl.2.1
      omega)
    cases b with
    | true =>
     go_wp2_with fail
     go_ret
     exact ⟨true, rfl, ⟨fun _ => HB.out.1 (by first | trivial | rfl), fun _ => rfl⟩, HBA.out⟩
    | false =>
     go_wp2_with fail
     go_ret
     exact ⟨false, rfl, ⟨fun e => (by cases e), fun h => by have := HB.out.2 h; simp at this⟩, HBA.out⟩
   ·have g2 : decide ((n : Int) < 30) = false := by simp; omega
    have HF := hid (show ¬ X6.Lit D from fun hl => by have := hl.1; have := HN.out.1; omega)
    go_wp2_with fail
    go_ret
    exact ⟨false, rfl, ⟨fun e => (by cases e), fun hv => absurd hv HF.out⟩, HBA.out⟩
def LiveP (D : Aut) (z : Int) (w : World) (e : Ending) (w' : World) : Prop := ∃ b : Bool, e = .returned (.bool b) ∧ (b = true ↔ X6.Vd D ∧ 0 ≤ z ∧ z < (D.next.length : Int) ∧ X6.Live (X5.rowOf D 0).length D z) ∧ Below w.heap.size w w'
set_option maxRecDepth 100000 in
set_option maxHeartbeats 4000000 in
theorem liveAt_any {w : World} {nv tv : Value} {D : Aut} (h : DAt w nv tv D) (hN : D.next.length ≤ 1000000) (hT : D.tags.length ≤ 1000000) (hNK : D.next.length * (X5.rowOf D 0).length ≤ 1000000) (z : Int) :
  Calls Tryz.prog 16 #[.agg (dval D nv tv), .int .i64 z] w (LiveP D z w) := by
 have hs258 := dval_size h
 obtain ⟨dc, hdc⟩ : ∃ dc, dval D nv tv = dc := ⟨_, rfl⟩
 have HD256 := hid (dcell_next h.len nv tv)
 have HSZ := hid (show dc.size = 258 from by rw [← hdc]; exact hs258)
 rw [hdc] at HD256 ⊢
 obtain ⟨no, nc, rfl⟩ := rows_shape h.rows
 obtain ⟨wa, ea⟩ : ∃ wa, w.alloc (.cells dc 26) = wa := ⟨_, rfl⟩
 have hba : Below w.heap.size w wa := by rw [← ea]; exact (Below.refl _ _).alloc (Nat.le_refl _) _
 have hna : wa.heap[w.heap.size]? = some (.cells dc 26 (0, 0)) := by rw [← ea]; exact new_block _ _
 have KV := valid2_any (h.below hba) hN hT
 rw [hdc] at KV
 have KV := hid KV
 have HDA := hid (h.below hba)
 have HBA := hid hba
 have HNA := hid hna
 have HDC := hid hdc
 have hnl := (Array.getElem?_eq_some_iff.1 hna).1
 obtain ⟨n, hn⟩ : ∃ n, D.next.length = n := ⟨_, rfl⟩
 rw [hn] at hN HD256
 have HN := hid hn
 clear h hdc hba hna hs258 hn
 go_enter Tryz.func16, Tryz.ntmps16
 go_wp2_with (with_reducible refine wpList_load30 rfl (.tmp 2) rfl w.heap.size rfl dc HNA.out HSZ.out ?_)
 refine KV.out.mono ?_
 rintro e w5 ⟨b, rfl, hbv, hb5⟩
 have HNB := hid ((hb5.block _ hnl).trans HNA.out)
 have hnl5 := (Array.getElem?_eq_some_iff.1 HNB.out).1
 have HB5 := hid (HBA.out.trans (hb5.mono HBA.out.size))
 have HDA5 := hid (HDA.out.below hb5)
 have HBV := hid hbv
 clear hbv hb5 ea KV
 cases b with
 | false =>
  have HF := hid (show ¬ X6.Vd D from fun hv => by have := HBV.out.2 hv; cases this)
  go_wp2_with fail
  go_ret
  exact ⟨false, rfl, ⟨fun e => (by cases e), fun hv => absurd hv.1 HF.out⟩, HB5.out⟩
 | true =>
  have HV := hid (HBV.out.1 rfl)
  by_cases hz0 : z < 0
  ·have g1 : decide (z < 0) = true := by simpa using hz0
   go_wp2_with fail
   go_ret
   exact ⟨false, rfl, ⟨fun e => (by cases e), fun hv => by have := hv.2.1; omega⟩, HB5.out⟩
  ·have g1 : decide (z < 0) = false := by simpa using hz0
   have c256 : w5.cell? ⟨w.heap.size, 256, none⟩ = some (.slice no n nc) := by rw [Lib.cell_of_heap HNB.out]; exact HD256.out
   by_cases hz1 : (n : Int) ≤ z
   ·have g2 : decide ((n : Int) ≤ z) = true := by simpa using hz1
    go_wp2_with fail
    go_ret
    exact ⟨false, rfl, ⟨fun e => (by cases e), fun hv => by have := hv.2.2.1; have := HN.out; omega⟩, HB5.out⟩
   ·have g2 : decide ((n : Int) ≤ z) = false := by simpa using hz1
    obtain ⟨k, rfl⟩ : ∃ k : Nat, z = (k : Int) := ⟨z.toNat, by omega⟩
    have hkn : k < n := by omega
    have g3 : (k : Int) < (n : Int) := by omega
    have g4 : (0 : Int) ≤ (k : Int) := by omega
    have KL := live_any HDA5.out HV.out.ok (by rw [HN.out]; exact hN) hNK
    rw [HDC.out, HN.out] at KL
    have KL := hid KL
    go_wp2_with (with_reducible refine wpList_load30 rfl (.tmp 2) rfl w.heap.size rfl dc HNB.out HSZ.out ?_)
    refine KL.out.mono ?_
    rintro e w6 ⟨g, lv, rfl, hg, hlv, hll, hlive, hb6⟩
    obtain ⟨b, hb⟩ : ∃ b, lv[k]? = some b := ⟨_, List.getElem?_eq_getElem (by omega)⟩
    have cb := (bools_cell hlv hb).1
    have hgl := (Array.getElem?_eq_some_iff.1 hlv).1
    have HL := hid (show b = true ↔ X6.Live (X5.rowOf D 0).length D (k : Int) from by
     have := hlive k hkn
     rwa [List.getD_eq_getElem?_getD, hb] at this)
    have HB6 := hid (HB5.out.trans (hb6.mono HB5.out.size))
    clear hlv hll hlive hb6 hb KL
    go_wp2_with fail
    go_ret
    exact ⟨b, rfl, ⟨fun hb => ⟨HV.out, g4, by rw [HN.out]; exact g3, HL.out.1 hb⟩, fun hv => HL.out.2 hv.2.2.2⟩, HB6.out⟩
end Go.Proofs.YtochckefnjobhaaGreatDoor
