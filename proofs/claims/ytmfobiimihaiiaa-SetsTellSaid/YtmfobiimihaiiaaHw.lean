/- One pass over a grammar's productions, that tells with what sorts begin. -/
import Derived.Test.YtmfobiimihaiiaaHv
namespace Go.Proofs.Ytmfobiimihaiiaa
open Go Go.RowKit Go.Lib Go.Joins

/-- What is told of sorts, by productions. -/
def evF (nt : Nat) (E : List Bool) (ps : List PD) : List Ev := ps.map fun p => (p.sort.toNat, fun L => ofRow nt E L p.rs 0)
theorem below_undrew {w w' : World} (h : Below w.drew.heap.size w.drew w') : Below w.heap.size w w' := ⟨h.os, h.tape, h.output, h.size, h.block⟩
theorem evF_take {nt : Nat} {E : List Bool} {ps : List PD} {j : Nat} (h : j < ps.length) : (evF nt E ps).take (j + 1) = (evF nt E ps).take j ++ [((ps.getD j default).sort.toNat, fun L => ofRow nt E L (ps.getD j default).rs 0)] := by
  unfold evF
  rw [← List.map_take, List.take_add_one, List.map_append, List.map_take, List.getD_eq_getElem?_getD, List.getElem?_eq_getElem h]
  rfl

set_option maxRecDepth 100000 in
set_option maxHeartbeats 4000000 in
theorem passF {G : GD} {gv tv ov sv pv : Value} {tf : Nat → Nat → Value} {rv : Nat → Value} {w0 W : World} {Bg Br eb lb Bl Bj Bc : Nat} {E : List Bool} {L : List Nat} (hG : GrAt w0 gv G tv ov sv pv tf rv) (hV : validB G = true)
    (hbox : w0.cell? ⟨Bg, 3, none⟩ = some pv) (hE : W.heap[eb]? = some (.cells (E.map Value.bool).toArray 4)) (nE : ¬ (eb = lb ∨ eb = Bc)) (hEl : E.length = G.sorts.length) (h0 : Below w0.heap.size w0 W)
    (hBr : W.heap[Br]? = some (.cells #[.int .i64 (G.terms.length : Int), .slice (some ⟨eb, 0, none⟩) G.sorts.length G.sorts.length, .slice (some ⟨lb, 0, none⟩) G.sorts.length G.sorts.length] 55))
    (hS : GStS W lb Bl Bj Bc G.sorts.length L false) (hL : ∀ x ∈ L, x < top) (g1 : w0.heap.size ≤ lb) (g2 : w0.heap.size ≤ Bc) :
    Calls Try.prog 52 #[.func (.func 54) #[] #[.pointer (some ⟨Bj, 0, none⟩), .pointer (some ⟨Bl, 0, none⟩), .pointer (some ⟨Bc, 0, none⟩)], .pointer (some ⟨Bg, 0, none⟩), .pointer (some ⟨Br, 0, none⟩)] W fun e W' =>
      (∃ v, e = .returned v) ∧ ∃ L' c, GStS W' lb Bl Bj Bc G.sorts.length L' c ∧ Far (fun k => k = lb ∨ k = Bc) W W' ∧ PassedS (evF G.terms.length E G.prods) (evF G.terms.length E G.prods) L L' c := by
  have hp := hG.prods
  obtain ⟨pa, pc, rfl, hpn, hp⟩ := hp
  have HV := hid hV
  obtain ⟨n60, s60, p120⟩ := valid_few hV
  generalize hnp : G.prods.length = np at *
  generalize hns : G.sorts.length = ns at *
  generalize hnt : G.terms.length = nt at *
  have HS0 := hid hS
  have hb3 := cell_below h0 hbox
  have hlen := hS.len
  clear hV
  go_enter Try.func52, Try.ntmps52
  go_wp2_with fail
  go_loopw [9] (fun i wr => ∃ (j : Nat) (Lj : List Nat) (c : Bool), j ≤ np ∧ i = .int .i64 (j : Int) ∧ GStS wr lb Bl Bj Bc ns Lj c ∧ Far (fun k => k = lb ∨ k = Bc) W wr ∧ PassedS (evF nt E G.prods) ((evF nt E G.prods).take j) L Lj c) (fun i _ => np - (RowKit.intOf i).toNat)
  case atStart => exact ⟨0, L, false, by omega, rfl, hS, Far.refl _ _, by rw [List.take_zero]; exact passedS_nil _ hL⟩
  case round =>
    clear hS
    obtain ⟨j, Lj, c, hj, rfl, hS, hF, hP⟩ := hrel
    have hbw : Below w0.heap.size w0 wr := h0.trans (hF.toBelow h0.size (by rintro k (rfl | rfl) <;> omega))
    have nB : ¬ (Br = lb ∨ Br = Bc) := by
      have h1 := HS0.out.list
      have h2 := HS0.out.chg
      rintro (rfl | rfl)
      · rw [hBr] at h1; simp at h1
      · rw [hBr] at h2; simp at h2
    have hbr := hF.heap hBr nB
    by_cases hlt : j < np
    · obtain ⟨b, off, rfl, hc⟩ := hp (by omega)
      obtain ⟨d0, d1, d2, d3⟩ := hc j hlt
      replace d0 := cell_below hbw d0
      replace d1 := cell_below hbw d1
      replace d2 := cell_below hbw d2
      replace d3 := cell_below hbw d3
      obtain ⟨v1, v2, v3, v4⟩ := prodB_sortNat (valid_prod HV.out (k := j) (by omega))
      rw [hns] at v2
      have hR := (hG.rights j (by omega)).mono hbw
      have hLt := hP.2.2.1
      have hrow : ofRow nt E Lj (G.prods.getD j default).rs 0 < top := ofRow_lt nt E hLt _ (by decide)
      have hmem : ((G.prods.getD j default).sort.toNat, fun L => ofRow nt E L (G.prods.getD j default).rs 0) ∈ evF nt E G.prods :=
        List.mem_map.2 ⟨_, by rw [List.getD_eq_getElem?_getD, List.getElem?_eq_getElem (by omega)]; exact List.getElem_mem (by omega), rfl⟩
      have hst := passedS_step hP hmem (by rw [hlen]; simp only; omega) hrow
      rw [← evF_take (by omega)] at hst
      simp only at hst
      clear hc hP hmem
      generalize hPP : G.prods.getD j default = P at *
      clear hPP
      obtain ⟨⟨ra, rc, hrv, hrn, hrc⟩, hri⟩ := hR
      rw [hrv] at d2
      obtain ⟨so, hso⟩ : ∃ so : Nat, P.sort = so := ⟨P.sort.toNat, by omega⟩
      rw [hso] at d1
      have hto : P.sort.toNat = so := by omega
      have hstep : stepS Lj (P.sort.toNat, fun L => ofRow nt E L P.rs 0) = Lj.set so (Lj.getD so 0 ||| ofRow nt E Lj P.rs 0) := by unfold stepS; rw [hto]
      rw [hstep, hto] at hst
      have HST := hid hst
      have hsz := hbw.size
      have i0 : (0 : Int) ≤ (j : Int) := by omega
      have i1 : (j : Int) < (np : Int) := by omega
      have hsn : so < ns := by omega
      obtain ⟨w2, hw2⟩ : ∃ w2, w2 = wr.alloc (.cells #[.string P.lab, .int .i64 (so : Int), .slice ra P.rs.length rc, .int .i64 P.cls] 41) := ⟨_, rfl⟩
      have hb2 : Below wr.heap.size wr w2 := by rw [hw2]; exact (Below.refl _ _).alloc (Nat.le_refl _) _
      have p1 : w2.cell? ⟨wr.heap.size, 1, none⟩ = some (.int .i64 (so : Int)) := by rw [hw2, World.cell?_alloc_mark]; rfl
      have p2 : w2.cell? ⟨wr.heap.size, 2, none⟩ = some (.slice ra P.rs.length rc) := by rw [hw2, World.cell?_alloc_mark]; rfl
      have hS2 := hS.keep hb2
      have hF2 : Far (fun k => k = lb ∨ k = Bc) W w2 := hF.trans (Far.ofBelow hb2)
      have hbr2 := heap_keep hb2 hbr
      have r0 := cell_of_block hbr2 0
      have r1 := cell_of_block hbr2 1
      have r2 := cell_of_block hbr2 2
      simp only [List.getElem?_toArray, List.getElem?_cons_zero, List.getElem?_cons_succ] at r0 r1 r2
      have heb : w2.heap[eb]? = some (.cells (E.map Value.bool).toArray 4) := heap_keep hb2 (hF.heap hE nE)
      have hia : IntsAt w2 (.slice ra P.rs.length rc) P.rs := IntsAt.mono ⟨⟨ra, rc, rfl, hrn, hrc⟩, hri⟩ hb2
      have kof : Hid (∀ (W' : World), Below w2.heap.size w2 W' → Calls Try.prog 37 #[rowsV nt eb lb ns, .slice ra P.rs.length rc, .int .u64 0] W' fun e W'' => e = .returned (u64 (ofRow nt E Lj P.rs 0)) ∧ Below W'.heap.size W' W'') := fun (W' : World) (hb : Below w2.heap.size w2 W') => of_any (b := 0) (nt := nt) (heap_keep hb heb) (heap_keep hb hS2.list) hEl hS2.len hLt (by decide) (hia.mono hb)
      have kmo := hid fun (W' : World) (hb : Below w2.heap.size w2 W') => moreS_any (hS2.keep hb) so hsn _ hrow hLt
      generalize hrow2 : ofRow nt E Lj P.rs 0 = x at *
      clear hstep hto hrv hso v1 v2 hst hia heb hrow hrow2 hLt hri hrc hrn v3 v4
      generalize P.rs.length = rl at *
      have hlb := (Array.getElem?_eq_some_iff.1 hS.list).1
      have hbc := (Array.getElem?_eq_some_iff.1 hS.chg).1
      go_wp2_with fail
      rw [← hw2]
      clear hw2
      generalize hpb : wr.heap.size = pb at *
      have nP : ¬ (pb = lb ∨ pb = Bc) := by omega
      go_region_held3 (fun w' => w'.cell? ⟨pb, 1, none⟩ = some (.int .i64 (so : Int)) ∧ w'.cell? ⟨pb, 2, none⟩ = some (.slice ra rl rc) ∧ w'.cell? ⟨Br, 0, none⟩ = some (.int .i64 (nt : Int)) ∧ w'.cell? ⟨Br, 1, none⟩ = some (.slice (some ⟨eb, 0, none⟩) ns ns) ∧ w'.cell? ⟨Br, 2, none⟩ = some (.slice (some ⟨lb, 0, none⟩) ns ns))
        (first
          | go_keep
          | (go_split_ands; refine ⟨?_, ?_, ?_, ?_, ?_⟩ <;> (apply cell_below hb5; assumption))
          | (go_split_ands; exact ⟨hF6.cell (by assumption) nP, hF6.cell (by assumption) nP, hF6.cell (by assumption) nB, hF6.cell (by assumption) nB, hF6.cell (by assumption) nB⟩))
        ((first | (go_at_call 37; first | (refine (kof.out _ (Below.refl _ _)).mono ?_; rintro e w5 ⟨rfl, hb5⟩) | (refine (kof.out _ (Below.refl _ _).drew).mono ?_; rintro e w5 ⟨rfl, hb5⟩)) | (go_at_call 54; refine (kmo.out _ (below_undrew hb5)).mono ?_; rintro e w6 ⟨⟨v, rfl⟩, hS6, hF6⟩)))
      have hFF : Far (fun k => k = lb ∨ k = Bc) W w6 := by
        first
          | exact (hF2.trans (Far.ofBelow hb5)).trans hF6
          | exact (hF2.trans (Far.ofBelow (below_undrew hb5))).trans hF6
      clear hF6 hb5
      go_wp2
      exact ⟨⟨j + 1, _, _, by omega, by go_num, hS6, hFF, HST.out⟩, by simp [RowKit.intOf]; omega⟩
    · obtain rfl : j = np := by omega
      have hlf : (evF nt E G.prods).length = j := by rw [← hnp]; simp [evF]
      rw [List.take_of_length_le (by omega)] at hP
      have HP := hid hP
      clear hP
      go_wp2
      go_end0
      exact ⟨⟨_, rfl⟩, Lj, c, hS, hF, HP.out⟩

end Go.Proofs.Ytmfobiimihaiiaa
