/- Little; where a state goes, and what stands behind a symbol. -/
import Derived.Test.YtjpbhbfklkipkaaDoorTc
namespace Go.Proofs.YtjpbhbfklkipkaaDoor
open Go Go.RowKit Go.Lib
open X14 (It closeV closeX stepV stepX behX symsX iterB BuiltOk)
set_option linter.unusedVariables false
set_option linter.unusedSimpArgs false
theorem place_sym {G : GD} {s : Int} {p : Nat} (h : placeX G s = some p) : (symsX G)[p]? = some s := by
  unfold placeX at h
  split at h
  · split at h
    · obtain rfl : s.toNat = p := Option.some.inj h
      rw [X14.syms_term (by omega)]
      congr 1
      omega
    · cases h
  · split at h
    · obtain rfl : G.terms.length + (-1 - s).toNat = p := Option.some.inj h
      rw [X14.syms_sort (by omega)]
      congr 1
      omega
    · cases h
theorem step_none {G : GD} {c : List It} {s : Int} (hv : validB G = true) (h : placeX G s = none) : stepX G c s = [] := by
  refine List.eq_nil_iff_forall_not_mem.2 fun y hy => ?_
  obtain ⟨x, _, hb, _⟩ := X14.mem_step.1 hy
  unfold placeX at h
  by_cases hs : 0 ≤ s
  · rw [if_pos hs] at h
    split at h
    · cases h
    · rename_i hlt
      have ht := X14.there_iff.1 (X14.beh_there hb)
      unfold X14.behX at hb
      rw [if_pos (X14.beh_there (by unfold X14.behX; exact hb))] at hb
      obtain ⟨hl, he⟩ := List.getElem?_eq_some_iff.1 hb
      obtain ⟨hnt, _, _, hp, _, hst, _⟩ := valid_parts hv
      have hmem : s ∈ X14.rightX G x.1 := by rw [← he]; exact List.getElem_mem hl
      by_cases h1 : x.1 = -1
      · have e : X14.rightX G x.1 = [-1 - G.start] := by unfold X14.rightX; rw [if_pos h1]
        rw [e] at hmem
        have : s = -1 - G.start := by simpa using hmem
        omega
      · have e : X14.rightX G x.1 = (G.prods.getD x.1.toNat default).rs := by unfold X14.rightX; rw [if_neg h1]
        rw [e] at hmem
        have hlp : x.1.toNat < G.prods.length := by omega
        have hpm : G.prods.getD x.1.toNat default ∈ G.prods := by
          rw [List.getD_eq_getElem?_getD, List.getElem?_eq_getElem hlp]
          exact List.getElem_mem hlp
        have hq := List.all_eq_true.1 hp _ hpm
        unfold prodB at hq
        simp only [Bool.and_eq_true, decide_eq_true_eq] at hq
        have hsy := List.all_eq_true.1 hq.2 s hmem
        unfold symB at hsy
        have := of_decide_eq_true hsy
        omega
  · rw [if_neg hs] at h
    split at h
    · cases h
    · have := beh_sort hv hb (by omega)
      omega
/-- Where a state goes by a symbol: nowhere, where nothing is behind it; else to what is behind it. -/
theorem go_step {G : GD} {n i : Nat} (hv : validB G = true) (h : BuiltOk G n) (hi : i < n) (s : Int) :
    (goX G (iterB G n).nx (i : Int) s = -1 ∧ stepV G ((iterB G n).ker.getD i []) s = []) ∨ ∃ q : Nat, goX G (iterB G n).nx (i : Int) s = (q : Int) ∧ 0 < q ∧ q < n ∧ (iterB G n).ker[q]? = some (stepV G ((iterB G n).ker.getD i []) s) := by
  obtain ⟨hI, ha, hl⟩ := h.inv
  have hnl := (X14.iterB_at G n).2
  have hsv : stepV G ((iterB G n).ker.getD i []) s = stepX G (closeX G ((iterB G n).ker.getD i [])) s := by
    unfold X14.stepV X14.closeV
    rw [if_pos hv]
  rw [hsv]
  cases hp : placeX G s with
  | none => exact .inl ⟨goX_none hp, step_none hv hp⟩
  | some p =>
    have hs := place_sym hp
    obtain ⟨R, v, e1, e2, e3⟩ := hI.num i (by omega) p s hs
    have hg := goX_at hp e1 e2
    rw [hg]
    rcases hI.to_ (by omega) hs e1 e2 with ⟨k1, k2⟩ | ⟨q, k1, k2, k3, k4⟩
    · exact .inl ⟨k1, k2⟩
    · exact .inr ⟨q, k1, k2, by omega, k4⟩
theorem stepV_again (G : GD) (l : List It) (s : Int) : stepV G (closeV G l) s = stepV G l s := by
  unfold X14.stepV X14.closeV
  by_cases h : validB G = true
  · rw [if_pos h, if_pos h, X14.closeX_again]
  · rw [if_neg h, if_neg h]
def LittleP (w : World) (e : Ending) (w' : World) : Prop := ∃ b, e = .returned (.bool b) ∧ Below w.heap.size w w'
set_option maxRecDepth 100000 in
set_option maxHeartbeats 4000000 in
theorem Little_any {G : GD} {gv : Value} {w : World} (h : Gram w gv G) : Calls Tryd.prog 19 #[gv] w (LittleP w) := by
  have HGr := hid h
  obtain ⟨tv, ov, sv, pv, tf, rv, h⟩ := h
  have hgv := h.eq
  subst hgv
  have HRI := hid h.rights
  obtain ⟨pa, pc, rfl, hpn, hpc⟩ := h.prods
  obtain ⟨np, hnp⟩ : ∃ np, G.prods.length = np := ⟨_, rfl⟩
  have HNP := hid hnp
  have HPC := hid hpc
  rw [hnp] at HGr hpn ⊢
  obtain ⟨W1, e1⟩ : ∃ W1, w.alloc (.cells #[tv, ov, sv, .slice pa np pc, .int .i64 G.start] 27) = W1 := ⟨_, rfl⟩
  have hb1 : Below w.heap.size w W1 := by rw [← e1]; exact (Below.refl _ _).alloc (Nat.le_refl _) _
  have n1 : W1.heap[w.heap.size]? = some (.cells #[tv, ov, sv, .slice pa np pc, .int .i64 G.start] 27 (0, 0)) := by rw [← e1]; exact new_block _ _
  have HB1 := hid hb1
  have HN1 := hid n1
  obtain ⟨tv', ov', sv', pv', tf', rv', hg1⟩ := HGr.out.below hb1
  obtain ⟨fw, hfw⟩ : ∃ fw, decide (fewG G) = fw := ⟨_, rfl⟩
  have KF := few_any hg1
  rw [hfw] at KF
  have KF := hid KF
  have c0 : W1.cell? ⟨w.heap.size, 0, none⟩ = some tv := Lib.cell_of_heap n1 0
  have c1 : W1.cell? ⟨w.heap.size, 1, none⟩ = some ov := Lib.cell_of_heap n1 1
  have c2 : W1.cell? ⟨w.heap.size, 2, none⟩ = some sv := Lib.cell_of_heap n1 2
  have c3 : W1.cell? ⟨w.heap.size, 3, none⟩ = some (.slice pa np pc) := Lib.cell_of_heap n1 3
  have c4 : W1.cell? ⟨w.heap.size, 4, none⟩ = some (.int .i64 G.start) := Lib.cell_of_heap n1 4
  clear h hb1 n1 hg1 hnp hpc hfw
  go_enter Tryd.func19, Tryd.ntmps19
  go_wp2_with fail
  refine KF.out.mono ?_
  rintro e w2 ⟨rfl, hb2⟩
  have HB2 := hid (HB1.out.trans (hb2.mono HB1.out.size))
  have HN2 := hid ((hb2.block _ (Array.getElem?_eq_some_iff.1 HN1.out).1).trans HN1.out)
  have c3 : w2.cell? ⟨w.heap.size, 3, none⟩ = some (.slice pa np pc) := Lib.cell_of_heap HN2.out 3
  clear hb2 KF e1 c0 c1 c2 c4
  go_wp2_with fail
  go_loopw [4] (fun t4 wr => ∃ k : Nat, k ≤ np ∧ t4 = .int .i64 (k : Int) ∧ wr = w2) (fun t4 _ => np - (RowKit.intOf t4).toNat)
  case atStart => exact ⟨0, Nat.zero_le _, rfl, by first | trivial | rfl⟩
  case round =>
    obtain ⟨k, hk, rfl, hww⟩ := hrel
    subst hww
    by_cases hlt : k < np
    · have t1 : (k : Int) < (np : Int) := by omega
      have t2 : (0 : Int) ≤ (k : Int) := by omega
      by_cases h15 : k < 15
      · have t3 : (k : Int) < 15 := by omega
        obtain ⟨pb, po, rfl, hpq⟩ := HPC.out (by rw [HNP.out]; omega)
        have q2 := cell_below HB2.out (hpq k (by rw [HNP.out]; exact hlt)).2.2.1
        obtain ⟨⟨ra, rc, hrv, _⟩, _⟩ := HRI.out k (by rw [HNP.out]; exact hlt)
        rw [hrv] at q2
        generalize (G.prods.getD k default).rs.length = rl at *
        clear hpq hrv
        by_cases h5 : 5 < rl
        · have t4 : (5 : Int) < (rl : Int) := by omega
          go_wp2_with fail
          go_ret
          exact ⟨_, rfl, HB2.out⟩
        · have t4 : ¬ (5 : Int) < (rl : Int) := by omega
          go_wp2_with fail
          refine ⟨⟨k + 1, by omega, rfl, by first | trivial | rfl⟩, ?_⟩
          show np - ((k : Int) + 1).toNat < np - ((k : Int)).toNat
          omega
      · have t3 : ¬ (k : Int) < 15 := by omega
        have t5 : ¬ (np : Int) ≤ 10 := by omega
        cases fw
        · go_wp2_with fail
          go_ret
          exact ⟨_, rfl, HB2.out⟩
        · go_wp2_with fail
          go_ret
          exact ⟨_, rfl, HB2.out⟩
    · have t1 : ¬ (k : Int) < (np : Int) := by omega
      cases fw
      · go_wp2_with fail
        go_ret
        exact ⟨_, rfl, HB2.out⟩
      · by_cases h10 : np ≤ 10
        · have t5 : (np : Int) ≤ 10 := by omega
          go_wp2_with fail
          go_ret
          exact ⟨_, rfl, HB2.out⟩
        · have t5 : ¬ (np : Int) ≤ 10 := by omega
          go_wp2_with fail
          go_ret
          exact ⟨_, rfl, HB2.out⟩
end Go.Proofs.YtjpbhbfklkipkaaDoor
