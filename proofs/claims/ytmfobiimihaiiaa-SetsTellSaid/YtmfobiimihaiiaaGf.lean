/- One pass over a grammar's productions, that tells which sorts are of a kind. -/
import Derived.Test.YtmfobiimihaiiaaGe
import Derived.Test.YtmfobiimihaiiaaGm
namespace Go.Proofs.Ytmfobiimihaiiaa
open Go Go.RowKit Go.Lib Go.Joins

theorem isE_any (W : World) (lb n : Nat) (L : List Bool) (s : Int) (h : W.heap[lb]? = some (.cells (L.map Value.bool).toArray 4)) (hl : L.length = n) (h0 : -9223372036854775808 ≤ s) (h1 : s ≤ 9223372036854775807) (hs : s < 0 → -1 - s < n) :
    Calls Try.prog 28 #[.int .i64 s, .slice (some ⟨lb, 0, none⟩) n n] W fun e W' => e = .returned (.bool (isK false L s)) ∧ W = W' := by
  by_cases hc : s < 0
  · have i1 := hs hc
    have c1 : W.cell? ⟨lb, (-1 - s).toNat, none⟩ = some (.bool (L.getD (-1 - s).toNat false)) := by
      rw [cell_of_block h]; simp [List.getD_eq_getElem?_getD, hl, show (-1 - s).toNat < n by omega]
    have hk : isK false L s = L.getD (-1 - s).toNat false := if_pos hc
    rw [hk]
    generalize L.getD (-1 - s).toNat false = y at *
    have i0 : 0 ≤ -1 - s := by omega
    clear hk
    go_enter Try.func28, Try.ntmps28
    go_wp2
    go_ret
    exact ⟨rfl, rfl⟩
  · have hk : isK false L s = false := if_neg hc
    rw [hk]
    go_enter Try.func28, Try.ntmps28
    go_wp2
    go_ret
    exact ⟨rfl, rfl⟩

theorem isL_any (W : World) (lb n : Nat) (L : List Bool) (s : Int) (h : W.heap[lb]? = some (.cells (L.map Value.bool).toArray 4)) (hl : L.length = n) (h0 : -9223372036854775808 ≤ s) (h1 : s ≤ 9223372036854775807) (hs : s < 0 → -1 - s < n) :
    Calls Try.prog 30 #[.int .i64 s, .slice (some ⟨lb, 0, none⟩) n n] W fun e W' => e = .returned (.bool (isK true L s)) ∧ W = W' := by
  by_cases hc : s < 0
  · have i1 := hs hc
    have c1 : W.cell? ⟨lb, (-1 - s).toNat, none⟩ = some (.bool (L.getD (-1 - s).toNat false)) := by
      rw [cell_of_block h]; simp [List.getD_eq_getElem?_getD, hl, show (-1 - s).toNat < n by omega]
    have hk : isK true L s = L.getD (-1 - s).toNat false := if_pos hc
    rw [hk]
    generalize L.getD (-1 - s).toNat false = y at *
    have i0 : 0 ≤ -1 - s := by omega
    clear hk
    go_enter Try.func30, Try.ntmps30
    go_wp2
    go_ret
    refine ⟨?_, rfl⟩
    show Ending.returned (.bool (decide (0 ≤ s) || y)) = _
    rw [decide_eq_false (by omega), Bool.false_or]
  · have hk : isK true L s = true := if_neg hc
    have hc2 : 0 ≤ s := by omega
    rw [hk]
    go_enter Try.func30, Try.ntmps30
    go_wp2
    go_ret
    exact ⟨rfl, rfl⟩

theorem prodB_sortNat {nt ns : Nat} {p : PD} (h : prodB nt ns p = true) : 0 ≤ p.sort ∧ p.sort < ns ∧ p.rs.length ≤ 12 ∧ ∀ s ∈ p.rs, (0 ≤ s ∧ s < nt) ∨ (s < 0 ∧ -1 - s < ns) := by
  unfold prodB at h
  simp only [Bool.and_eq_true, decide_eq_true_eq, List.all_eq_true] at h
  obtain ⟨⟨⟨h1, h2⟩, h3⟩, h4⟩ := h
  refine ⟨h1, h2, h3, fun s hs => ?_⟩
  have := h4 s hs
  unfold symB at this
  simpa using this

theorem valid_prods {G : GD} (h : validB G = true) : G.prods.all (prodB G.terms.length G.sorts.length) = true := by
  unfold validB at h
  simp only [Bool.and_eq_true] at h
  exact h.1.1.2
theorem valid_prod {G : GD} (h : validB G = true) {k : Nat} (hk : k < G.prods.length) : prodB G.terms.length G.sorts.length (G.prods.getD k default) = true := by
  have := valid_prods h
  rw [List.all_eq_true] at this
  have := this _ (List.getElem_mem hk)
  rwa [List.getD_eq_getElem?_getD, List.getElem?_eq_getElem hk]
theorem valid_few {G : GD} (h : validB G = true) : G.terms.length ≤ 60 ∧ G.sorts.length ≤ 60 ∧ G.prods.length ≤ 120 := by
  unfold validB at h
  simp only [Bool.and_eq_true, decide_eq_true_eq] at h
  obtain ⟨⟨⟨⟨⟨h1, h2⟩, h3⟩, _⟩, _⟩, _⟩ := h
  exact ⟨h1, h2, h3⟩
theorem valid_start {G : GD} (h : validB G = true) : 0 ≤ G.start ∧ G.start < G.sorts.length := by
  unfold validB at h
  simp only [Bool.and_eq_true, decide_eq_true_eq] at h
  exact h.2.1.1.1

theorem GSt.keep {W W' : World} {lb Bl Bj Bc n : Nat} {L : List Bool} {c : Bool} (h : GSt W lb Bl Bj Bc n L c) (hb : Below W.heap.size W W') : GSt W' lb Bl Bj Bc n L c := by
  have k : ∀ {b : Nat} {o : Obj}, W.heap[b]? = some o → W'.heap[b]? = some o := fun ho => (hb.block _ (Array.getElem?_eq_some_iff.1 ho).1).trans ho
  exact ⟨k h.list, k h.var, k h.join, k h.chg, h.len, h.ne⟩
theorem all_take {α : Type} (l : List α) (f : α → Bool) (d : α) (k : Nat) (h : k < l.length) : (l.take (k + 1)).all f = ((l.take k).all f && f (l.getD k d)) := by
  rw [List.take_add_one, List.all_append, List.getD_eq_getElem?_getD, List.getElem?_eq_getElem h]
  simp
theorem mem_getD {l : List Int} {k : Nat} (h : k < l.length) : l.getD k 0 ∈ l := by
  rw [List.getD_eq_getElem?_getD, List.getElem?_eq_getElem h]; exact List.getElem_mem _

set_option maxRecDepth 100000 in
set_option maxHeartbeats 2000000 in
theorem passE {G : GD} {gv tv ov sv pv : Value} {tf : Nat → Nat → Value} {rv : Nat → Value} {w0 W : World} {Bg Bi Be lb Bl Bj Bc : Nat} {L : List Bool} (hG : GrAt w0 gv G tv ov sv pv tf rv) (hV : validB G = true)
    (hbox : w0.cell? ⟨Bg, 3, none⟩ = some pv) (his : w0.cell? ⟨Bi, 0, none⟩ = some (.func (.func 28) #[] #[])) (h0 : Below w0.heap.size w0 W)
    (hBe : W.heap[Be]? = some (.cells #[.slice (some ⟨lb, 0, none⟩) G.sorts.length G.sorts.length] 33)) (hS : GSt W lb Bl Bj Bc G.sorts.length L false) (g1 : w0.heap.size ≤ lb) (g2 : w0.heap.size ≤ Bc) :
    Calls Try.prog 51 #[.func (.func 57) #[] #[.pointer (some ⟨Bj, 0, none⟩), .pointer (some ⟨Bl, 0, none⟩), .pointer (some ⟨Bc, 0, none⟩)], .pointer (some ⟨Bg, 0, none⟩), .pointer (some ⟨Bi, 0, none⟩), .pointer (some ⟨Be, 0, none⟩)] W fun e W' =>
      (∃ v, e = .returned v) ∧ ∃ L' c, GSt W' lb Bl Bj Bc G.sorts.length L' c ∧ Far (fun k => k = lb ∨ k = Bc) W W' ∧ Passed false G.prods L G.prods.length L' c := by
  have hp := hG.prods
  obtain ⟨pa, pc, rfl, hpn, hp⟩ := hp
  have HV := hid hV
  have HG := hid hG
  obtain ⟨n60, s60, p120⟩ := valid_few hV
  generalize hnp : G.prods.length = np at *
  generalize hns : G.sorts.length = ns at *
  have HS0 := hid hS
  have hb3 := cell_below h0 hbox
  have hlen := hS.len
  clear hV
  go_enter Try.func51, Try.ntmps51
  go_wp2_with fail
  go_loopw [13] (fun i wr => ∃ (j : Nat) (Lj : List Bool) (c : Bool), j ≤ np ∧ i = .int .i64 (j : Int) ∧ GSt wr lb Bl Bj Bc ns Lj c ∧ Far (fun k => k = lb ∨ k = Bc) W wr ∧ Passed false G.prods L j Lj c) (fun i _ => np - (RowKit.intOf i).toNat)
  case atStart => exact ⟨0, L, false, by omega, rfl, hS, Far.refl _ _, passed_zero _ _ _⟩
  case round =>
    clear hS
    obtain ⟨j, Lj, c, hj, rfl, hS, hF, hP⟩ := hrel
    have HP := hid hP
    clear hP
    have hbw : Below w0.heap.size w0 wr := h0.trans (hF.toBelow h0.size (by rintro k (rfl | rfl) <;> omega))
    have nB : ¬ (Be = lb ∨ Be = Bc) := by
      have h1 := HS0.out.list
      have h2 := HS0.out.chg
      rintro (rfl | rfl)
      · rw [hBe] at h1; simp at h1
      · rw [hBe] at h2; simp at h2
    have hbe := hF.heap hBe nB
    by_cases hlt : j < np
    · obtain ⟨b, off, rfl, hc⟩ := hp (by omega)
      obtain ⟨d0, d1, d2, d3⟩ := hc j hlt
      replace d0 := cell_below hbw d0
      replace d1 := cell_below hbw d1
      replace d2 := cell_below hbw d2
      replace d3 := cell_below hbw d3
      obtain ⟨v1, v2, v3, v4⟩ := prodB_sortNat (valid_prod HV.out (k := j) (by omega))
      rw [hns] at v2 v4
      have hR := (hG.rights j (by omega)).mono hbw
      have hst := passed_step HP.out (by omega) (by rw [hlen]; omega)
      clear hc
      generalize G.prods.getD j default = P at *
      obtain ⟨⟨ra, rc, hrv, hrn, hrc⟩, hri⟩ := hR
      rw [hrv] at d2
      obtain ⟨so, hso⟩ : ∃ so : Nat, P.sort = so := ⟨P.sort.toNat, by omega⟩
      rw [hso] at d1
      have hto : P.sort.toNat = so := by omega
      have hstep : stepB false Lj P = Lj.set so (Lj.getD so false || P.rs.all (isK false Lj)) := by unfold stepB; rw [hto]
      rw [hstep, hto] at hst
      have HST := hid hst
      have hsz := hbw.size
      have i0 : (0 : Int) ≤ (j : Int) := by omega
      have i1 : (j : Int) < (np : Int) := by omega
      have hsn : so < ns := by omega
      generalize hrs : P.rs = rs at *
      clear hst hstep hto hrv hso v1 v2 HP
      generalize hrl : rs.length = rl at *
      have i2 : (rl : Int) ≤ 12 := by omega
      obtain ⟨w2, hw2⟩ : ∃ w2, w2 = wr.alloc (.cells #[.string P.lab, .int .i64 (so : Int), .slice ra rl rc, .int .i64 P.cls] 41) := ⟨_, rfl⟩
      have hb2 : Below wr.heap.size wr w2 := by rw [hw2]; exact (Below.refl _ _).alloc (Nat.le_refl _) _
      have p1 : w2.cell? ⟨wr.heap.size, 1, none⟩ = some (.int .i64 (so : Int)) := by rw [hw2, World.cell?_alloc_mark]; rfl
      have hS2 := hS.keep hb2
      have hF2 : Far (fun k => k = lb ∨ k = Bc) W w2 := hF.trans (Far.ofBelow hb2)
      have e0 := cell_below hb2 (cell_below hbw his)
      have e1 := cell_of_block ((hb2.block _ (Array.getElem?_eq_some_iff.1 hbe).1).trans hbe) 0
      have km := hid (fun (x : Bool) => more_any hS2 so hsn x)
      have hli := hid hS2.list
      have hll : Lj.length = ns := hS2.len
      go_wp2_with fail
      rw [← hw2]
      clear hw2
      go_loop [7, 20] (fun all i => ∃ q : Nat, q ≤ rl ∧ i = .int .i64 (q : Int) ∧ all = .bool ((rs.take q).all (isK false Lj))) (fun _ i => rl - (RowKit.intOf i).toNat)
      case atStart => exact ⟨0, by omega, rfl, rfl⟩
      case round =>
        obtain ⟨q, hq, rfl, rfl⟩ := hrel
        by_cases hql : q < rl
        · obtain ⟨rb, ro, rfl, hcc⟩ := hrc (by omega)
          have q1 := cell_below hb2 (hcc q hql)
          have hms := mem_getD (l := rs) (k := q) (by omega)
          obtain ⟨m1, m2⟩ := hri _ hms
          have m3 := v4 _ hms
          have hat := hid (all_take rs (isK false Lj) 0 q (by omega))
          have ki := hid (isE_any w2 lb ns Lj (rs.getD q 0) hli.out hll m1 m2 (by omega))
          clear hcc hms m3
          generalize rs.getD q 0 = s at *
          generalize isK false Lj s = z at *
          have j0 : (0 : Int) ≤ (q : Int) := by omega
          have j1 : (q : Int) < (rl : Int) := by omega
          cases hy : (rs.take q).all (isK false Lj)
          · rw [hy] at hat
            go_wp2
            exact ⟨⟨q + 1, by omega, by go_num, by rw [hat.out]; rfl⟩, by simp [RowKit.intOf]; omega⟩
          · rw [hy] at hat
            go_wp2_with fail
            refine ki.out.mono ?_
            rintro e w' ⟨rfl, rfl⟩
            go_wp2
            exact ⟨⟨q + 1, by omega, by go_num, by rw [hat.out]; rfl⟩, by simp [RowKit.intOf]; omega⟩
        · obtain rfl : q = rl := by omega
          have hfull : rs.take rs.length = rs := List.take_length
          rw [hrl] at hfull
          rw [hfull]
          generalize rs.all (isK false Lj) = x at *
          go_wp2_with fail
          refine (km.out x).mono ?_
          rintro e w3 ⟨⟨v, rfl⟩, hS3, hF3⟩
          go_wp2
          exact ⟨⟨j + 1, _, _, by omega, by go_num, hS3, hF2.trans hF3, HST.out⟩, by simp [RowKit.intOf]; omega⟩
    · obtain rfl : j = np := by omega
      go_wp2
      go_end0
      exact ⟨⟨_, rfl⟩, Lj, c, hS, hF, HP.out⟩

end Go.Proofs.Ytmfobiimihaiiaa
