/- inst.Valid. -/
import Derived.Test.YticmnfmijdgmbaaGreatDoorGb
namespace Go.Proofs.YticmnfmijdgmbaaGreatDoor
open Go Go.RowKit Go.Lib
def symB (nt ns : Nat) (s : Int) : Bool := decide (0 ≤ s ∧ s < nt ∨ s < 0 ∧ -1 - s < ns)
def prodB (nt ns : Nat) (p : PD) : Bool := decide (0 ≤ p.sort ∧ p.sort < ns) && decide (p.rs.length ≤ 12) && p.rs.all (symB nt ns)
theorem prodB_up {nt ns : Nat} {p : PD} (h1 : 0 ≤ p.sort ∧ p.sort < ns) (h2 : p.rs.length ≤ 12) (h3 : ∀ j, j < p.rs.length → symB nt ns (p.rs.getD j 0) = true) : prodB nt ns p = true := by
 unfold prodB
 rw [decide_eq_true h1, decide_eq_true h2, Bool.true_and, Bool.true_and, List.all_eq_true]
 intro x hx
 obtain ⟨j, hj, rfl⟩ := List.getElem_of_mem hx
 have := h3 j hj
 rwa [List.getD_eq_getElem?_getD, List.getElem?_eq_getElem hj] at this
theorem prodB_sort {nt ns : Nat} {p : PD} (h : ¬ (0 ≤ p.sort ∧ p.sort < ns)) : prodB nt ns p = false := by
 unfold prodB; rw [decide_eq_false h]; rfl
theorem prodB_long {nt ns : Nat} {p : PD} (h : ¬ (p.rs.length ≤ 12)) : prodB nt ns p = false := by
 unfold prodB; rw [decide_eq_false h, Bool.and_false]; rfl
theorem prodB_sym {nt ns : Nat} {p : PD} {j : Nat} (hj : j < p.rs.length) (h : symB nt ns (p.rs.getD j 0) = false) : prodB nt ns p = false := by
 unfold prodB
 rw [show p.rs.all (symB nt ns) = false from ?_, Bool.and_false]
 rw [Bool.eq_false_iff]
 intro h'
 rw [List.all_eq_true] at h'
 have := h' _ (List.getElem_mem hj)
 rw [List.getD_eq_getElem?_getD, List.getElem?_eq_getElem hj] at h
 rw [show symB nt ns p.rs[j] = false from h] at this
 cases this
theorem among_is (n c : Int) (w : World) : Calls Tryz.prog 97 #[.int .i64 n, .int .i64 c] w fun e w' => e = .returned (.bool (decide (0 ≤ n ∧ n < c))) ∧ w = w' :=
 (among_any n c w).mono fun _ _ ⟨h1, h2⟩ => ⟨h1, h2.symm⟩
theorem pr_box (w : World) (lab : ByteArray) (s : Int) (r c : Value) :
  ∃ W1 B, W1 = w.alloc (.cells #[.string lab, .int .i64 s, r, c] 71) ∧ B = w.heap.size ∧ W1.cell? ⟨B, 0, none⟩ = some (.string lab) ∧ W1.cell? ⟨B, 1, none⟩ = some (.int .i64 s) ∧ W1.cell? ⟨B, 2, none⟩ = some r ∧
   W1.cell? ⟨B, 3, none⟩ = some c ∧ Below w.heap.size w W1 := by
 refine ⟨_, _, rfl, rfl, ?_, ?_, ?_, ?_, (Below.refl _ _).alloc (Nat.le_refl _) _⟩ <;> (rw [World.cell?_alloc_mark]; rfl)
set_option maxRecDepth 100000 in
set_option maxHeartbeats 1000000 in
theorem prodValid_any {G : GD} {gv tv ov sv pv : Value} {tf : Nat → Nat → Value} {rv : Nat → Value} {w : World} (h : GrAt w gv G tv ov sv pv tf rv) (p : PD) (rp : Value) (hp : IntsAt w rp p.rs) :
  Calls Tryz.prog 96 #[gv, .agg #[.string p.lab, .int .i64 p.sort, rp, .int .i64 p.cls]] w fun e w' => e = .returned (.bool (prodB G.terms.length G.sorts.length p)) ∧ Below w.heap.size w w' := by
 obtain ⟨W1, B, hW1, hB, c0, c1, c2, c3, c4, hG, hb, hsz⟩ := gr_box h
 obtain ⟨W2, B2, hW2, hB2, d0, d1, d2, d3, hb2⟩ := pr_box W1 p.lab p.sort rp (.int .i64 p.cls)
 have ht := hG.terms
 have hs := hG.sorts
 have hgv := hG.eq
 replace hp := (hp.mono hb).mono hb2
 obtain ⟨⟨ra, rc, rfl, hrn, hrc⟩, hri⟩ := hp
 replace c0 := cell_below hb2 c0
 replace c2 := cell_below hb2 c2
 replace hb := hb.trans (hb2.mono hsz)
 have hsz2 : W1.heap.size = w.heap.size + 1 := by rw [hW1]; simp
 rw [hsz2, ← hB] at hB2
 clear hG h c1 c3 c4 hb2 hsz d0 d3 hsz2
 subst hgv
 obtain ⟨ta, tc, rfl, htn, _⟩ := ht
 obtain ⟨sa, sc, rfl, hsn, _⟩ := hs
 have PS := hid (prodB_sort (p := p) (nt := G.terms.length) (ns := G.sorts.length))
 have PL := hid (prodB_long (p := p) (nt := G.terms.length) (ns := G.sorts.length))
 have PN := hid (fun j => prodB_sym (p := p) (nt := G.terms.length) (ns := G.sorts.length) (j := j))
 have PU := hid (prodB_up (p := p) (nt := G.terms.length) (ns := G.sorts.length))
 generalize prodB G.terms.length G.sorts.length p = PB at *
 generalize G.terms.length = nt at *
 generalize G.sorts.length = ns at *
 have kS := hid fun w => among_is p.sort (ns : Int) w
 have kT := hid fun (s : Int) w => among_is s (nt : Int) w
 have kN := hid fun (s : Int) w => among_is (-1 - s) (ns : Int) w
 by_cases hso : 0 ≤ p.sort ∧ p.sort < ns
 case neg =>
  rw [decide_eq_false hso] at kS
  have PS' := hid (PS.out hso)
  clear hso PL PN PU kT kN hrc hri
  go_enter Tryz.func96, Tryz.ntmps96
  go_wp2_with fail
  rw [← hW1, ← hW2, ← hB, ← hB2]
  clear hW1 hW2 hB hB2
  refine (kS.out _).mono ?_
  rintro e w' ⟨rfl, rfl⟩
  go_wp2
  go_ret
  exact ⟨by rw [PS'.out] <;> rfl, hb⟩
 rw [decide_eq_true hso] at kS
 replace PU := hid (PU.out hso)
 clear PS hso
 generalize p.sort = so at *
 generalize hrs : p.rs = rs at *
 clear hrs
 generalize hrl : rs.length = rl at *
 by_cases h12 : rl ≤ 12
 case neg =>
  have PL' := hid (PL.out h12)
  have h12' : (12 : Int) < (rl : Int) := by omega
  clear PN PU kT kN hrc hri
  go_enter Tryz.func96, Tryz.ntmps96
  go_wp2_with fail
  rw [← hW1, ← hW2, ← hB, ← hB2]
  clear hW1 hW2 hB hB2
  refine (kS.out _).mono ?_
  rintro e w' ⟨rfl, rfl⟩
  go_wp2
  go_ret
  exact ⟨by rw [PL'.out] <;> rfl, hb⟩
 have h12' : (rl : Int) ≤ 12 := by omega
 replace PU := hid (PU.out h12)
 clear PL
 have HI : Hid (∀ j, j < rl → -9223372036854775808 ≤ rs.getD j 0 ∧ rs.getD j 0 ≤ 9223372036854775807) := fun j hj => hri _ (by
  rw [List.getD_eq_getElem?_getD, List.getElem?_eq_getElem (by omega)]; exact List.getElem_mem _)
 clear hri
 go_enter Tryz.func96, Tryz.ntmps96
 go_wp2_with fail
 rw [← hW1, ← hW2, ← hB, ← hB2]
 clear hW1 hW2 hB hB2
 refine (kS.out _).mono ?_
 rintro e w' ⟨rfl, rfl⟩
 go_wp2
 go_loop [23] (fun i => ∃ k : Nat, k ≤ rl ∧ i = .int .i64 (k : Int) ∧ ∀ j, j < k → symB nt ns (rs.getD j 0) = true) (fun i => rl - (RowKit.intOf i).toNat)
 case atStart => exact ⟨0, by omega, rfl, fun j hj => by omega⟩
 case round =>
  obtain ⟨k, hk, rfl, hj⟩ := hrel
  have HJ := hid hj
  clear hj
  by_cases hlt : k < rl
  ·obtain ⟨b, off, rfl, hc⟩ := hrc (by omega)
   have e0 := hc k hlt
   obtain ⟨m1, m2⟩ := HI.out k hlt
   have HS : Hid (symB nt ns (rs.getD k 0) = true → ∀ j, j < k + 1 → symB nt ns (rs.getD j 0) = true) := fun h j hj => by
    rcases Nat.lt_or_ge j k with h1 | h1
    ·exact HJ.out j h1
    ·obtain rfl : j = k := by omega
     exact h
   have HN := hid (PN.out k hlt)
   have i1 : (k : Int) < (rl : Int) := by omega
   have i0 : (0 : Int) ≤ (k : Int) := by omega
   clear hc HJ PN PU hrc
   generalize rs.getD k 0 = s at *
   have hsy : symB nt ns s = decide (0 ≤ s ∧ s < nt ∨ s < 0 ∧ -1 - s < ns) := rfl
   generalize symB nt ns s = sb at *
   by_cases hs0 : 0 ≤ s
   ·replace kT := hid (kT.out s)
    by_cases hst : s < nt
    ·rw [decide_eq_true ⟨hs0, hst⟩] at kT
     rw [decide_eq_true (by omega)] at hsy
     subst hsy
     have HS2 := hid (HS.out rfl)
     clear HS HN hst kN
     go_wp2_with fail
     refine (kT.out _).mono ?_
     rintro e w' ⟨rfl, rfl⟩
     go_wp2
     exact ⟨⟨k + 1, by omega, by go_num, HS2.out⟩, by simp [RowKit.intOf]; omega⟩
    ·rw [decide_eq_false (fun h => hst h.2)] at kT
     rw [decide_eq_false (by omega)] at hsy
     subst hsy
     have HN2 := hid (HN.out rfl)
     clear HS HN hst kN
     go_wp2_with fail
     refine (kT.out _).mono ?_
     rintro e w' ⟨rfl, rfl⟩
     go_wp2
     go_ret
     exact ⟨by rw [HN2.out] <;> rfl, hb⟩
   ·replace kN := hid (kN.out s)
    have hs1 : s < 0 := by omega
    have i5 : IntKind.i64.wrap (-1 - s) = -1 - s := by rw [IntKind.wrap_i64]; omega
    by_cases hst : -1 - s < ns
    ·rw [decide_eq_true ⟨by omega, hst⟩] at kN
     rw [decide_eq_true (by omega)] at hsy
     subst hsy
     have HS2 := hid (HS.out rfl)
     clear HS HN hst kT hs0
     go_wp2_with fail
     refine (kN.out _).mono ?_
     rintro e w' ⟨rfl, rfl⟩
     go_wp2
     exact ⟨⟨k + 1, by omega, by go_num, HS2.out⟩, by simp [RowKit.intOf]; omega⟩
    ·rw [decide_eq_false (fun h => hst h.2)] at kN
     rw [decide_eq_false (by omega)] at hsy
     subst hsy
     have HN2 := hid (HN.out rfl)
     clear HS HN hst kT hs0
     go_wp2_with fail
     refine (kN.out _).mono ?_
     rintro e w' ⟨rfl, rfl⟩
     go_wp2
     go_ret
     exact ⟨by rw [HN2.out] <;> rfl, hb⟩
  ·have i1 : ¬ ((k : Int) < (rl : Int)) := by omega
   have HT : Hid (PB = true) := PU.out fun j hj => HJ.out j (by omega)
   clear PU PN HI
   go_wp2
   go_ret
   exact ⟨by rw [HT.out] <;> rfl, hb⟩
def pairB (nt : Nat) (q : Int × Int) : Bool := decide (0 ≤ q.1 ∧ q.1 < nt) && decide (0 ≤ q.2 ∧ q.2 < nt)
def validB (G : GD) : Bool :=
 decide (G.terms.length ≤ 60) && decide (G.sorts.length ≤ 60) && decide (G.prods.length ≤ 120) && G.prods.all (prodB G.terms.length G.sorts.length) && G.over.all (pairB G.terms.length) &&
  (decide (0 ≤ G.start ∧ G.start < G.sorts.length) && riseB G.sorts && riseB (G.prods.map (·.lab)) && riseB G.terms)
theorem all_up {α : Type} {l : List α} {f : α → Bool} {d : α} (h : ∀ j, j < l.length → f (l.getD j d) = true) : l.all f = true := by
 rw [List.all_eq_true]
 intro x hx
 obtain ⟨j, hj, rfl⟩ := List.getElem_of_mem hx
 have := h j hj
 rwa [List.getD_eq_getElem?_getD, List.getElem?_eq_getElem hj] at this
theorem all_no {α : Type} {l : List α} {f : α → Bool} {d : α} {j : Nat} (hj : j < l.length) (h : f (l.getD j d) = false) : l.all f = false := by
 rw [Bool.eq_false_iff]
 intro h'
 rw [List.all_eq_true] at h'
 have := h' _ (List.getElem_mem hj)
 rw [List.getD_eq_getElem?_getD, List.getElem?_eq_getElem hj] at h
 rw [show f l[j] = false from h] at this
 cases this
theorem cell_alloc {w : World} {p : Addr} {v : Value} {o : Obj} (h : w.cell? p = some v) : (w.alloc o).cell? p = some v :=
 cell_below ((Below.refl _ _).alloc (Nat.le_refl _) o) h
set_option maxRecDepth 100000 in
set_option maxHeartbeats 1000000 in
theorem Valid_any {G : GD} {gv tv ov sv pv : Value} {tf : Nat → Nat → Value} {rv : Nat → Value} {w : World} (h : GrAt w gv G tv ov sv pv tf rv) :
  Calls Tryz.prog 58 #[gv] w fun e w' => e = .returned (.bool (validB G)) ∧ Below w.heap.size w w' := by
 obtain ⟨W1, B, hW1, hB, c0, c1, c2, c3, c4, hG, hb, hsz⟩ := gr_box h
 have hV : validB G = (decide (G.terms.length ≤ 60) && decide (G.sorts.length ≤ 60) && decide (G.prods.length ≤ 120) && G.prods.all (prodB G.terms.length G.sorts.length) && G.over.all (pairB G.terms.length) &&
  (decide (0 ≤ G.start ∧ G.start < G.sorts.length) && riseB G.sorts && riseB (G.prods.map (·.lab)) && riseB G.terms)) := rfl
 have hgv := hG.eq
 subst hgv
 have ht := hG.terms
 have ho := hG.over
 have hs := hG.sorts
 have hp := hG.prods
 obtain ⟨ta, tc, rfl, htn, _⟩ := ht
 obtain ⟨oa, oc, rfl, hon, ho⟩ := ho
 obtain ⟨sa, sc, rfl, hsn, _⟩ := hs
 obtain ⟨pa, pc, rfl, hpn, hp⟩ := hp
 by_cases hbig : 60 < G.terms.length ∨ 60 < G.sorts.length ∨ 120 < G.prods.length
 case pos =>
  have hVF : validB G = false := by
   rw [hV]
   have : (decide (G.terms.length ≤ 60) && decide (G.sorts.length ≤ 60) && decide (G.prods.length ≤ 120)) = false := by
    rw [Bool.eq_false_iff]; simp only [ne_eq, Bool.and_eq_true, decide_eq_true_eq]; omega
   rw [this]; simp
  generalize validB G = V at *
  subst hVF
  clear hV h ho hp hG
  generalize G.terms.length = nt at *
  generalize G.sorts.length = ns at *
  generalize G.prods.length = np at *
  rcases hbig with h1 | ⟨h2⟩ | ⟨h3⟩
  all_goals
   go_enter Tryz.func58, Tryz.ntmps58
   go_wp2_with fail
   all_goals
    rw [← hW1]
    go_ret
    exact ⟨rfl, hb⟩
 have hb60 : (G.terms.length : Int) ≤ 60 ∧ (G.sorts.length : Int) ≤ 60 ∧ (G.prods.length : Int) ≤ 120 := by omega
 obtain ⟨n60, s60, p120⟩ := hb60
 have HG := hid hG
 have kp := hid (fun (W : World) (hb : Below W1.heap.size W1 W) (k : Nat) (hk : k < G.prods.length) => prodValid_any (hG.mono hb) (G.prods.getD k default) (rv k) ((hG.rights k hk).mono hb))
 have hV1 : Hid (∀ j, j < G.prods.length → prodB G.terms.length G.sorts.length (G.prods.getD j default) = false → validB G = false) := fun j hj h => by
  rw [hV, all_no hj h]; simp
 have hV2 : Hid (∀ j, j < G.over.length → pairB G.terms.length (G.over.getD j (0, 0)) = false → validB G = false) := fun j hj h => by
  rw [hV, all_no hj h]; simp
 have hV3 : Hid ((∀ j, j < G.prods.length → prodB G.terms.length G.sorts.length (G.prods.getD j default) = true) → (∀ j, j < G.over.length → pairB G.terms.length (G.over.getD j (0, 0)) = true) →
   validB G = (decide (0 ≤ G.start ∧ G.start < G.sorts.length) && riseB G.sorts && riseB (G.prods.map (·.lab)) && riseB G.terms)) := fun h1 h2 => by
  rw [hV, all_up h1, all_up h2, decide_eq_true (by omega : G.terms.length ≤ 60), decide_eq_true (by omega : G.sorts.length ≤ 60), decide_eq_true (by omega : G.prods.length ≤ 120)]
  simp
 have k1 := hid (fun (W : World) (hb : Below W1.heap.size W1 W) => rise_s _ _ W (hG.sorts.mono hb))
 have k2 := hid (fun (W : World) (hb : Below W1.heap.size W1 W) => rise_p _ _ _ W (hG.prods.mono hb))
 have k3 := hid (fun (W : World) (hb : Below W1.heap.size W1 W) => rise_t _ _ _ W (hG.terms.mono hb))
 clear hV hG h hbig
 generalize validB G = V at *
 generalize riseB G.sorts = v1 at *
 generalize riseB (G.prods.map (·.lab)) = v2 at *
 generalize riseB G.terms = v3 at *
 generalize G.start = st at *
 generalize hnt : G.terms.length = nt at *
 generalize hns : G.sorts.length = ns at *
 generalize hnp : G.prods.length = np at *
 generalize hno : G.over.length = no at *
 go_enter Tryz.func58, Tryz.ntmps58
 go_wp2_with fail
 rw [← hW1, ← hB]
 clear hW1 hB
 go_loopw [26] (fun i wr => ∃ k : Nat, k ≤ np ∧ i = .int .i64 (k : Int) ∧ Below W1.heap.size W1 wr ∧ ∀ j, j < k → prodB nt ns (G.prods.getD j default) = true) (fun i _ => np - (RowKit.intOf i).toNat)
 case atStart => exact ⟨0, by omega, rfl, Below.refl _ _, fun j hj => by omega⟩
 case round =>
  obtain ⟨k, hk, rfl, hw, hj⟩ := hrel
  have HJ := hid hj
  clear hj
  have hsw := hw.size
  have f0 := cell_below hw c0
  have f1 := cell_below hw c1
  have f2 := cell_below hw c2
  have f3 := cell_below hw c3
  have f4 := cell_below hw c4
  by_cases hlt : k < np
  ·obtain ⟨b, off, rfl, hc⟩ := hp (by omega)
   obtain ⟨d0, d1, d2, d3⟩ := hc k hlt
   replace d0 := cell_below hw d0
   replace d1 := cell_below hw d1
   replace d2 := cell_below hw d2
   replace d3 := cell_below hw d3
   have HS : Hid (prodB nt ns (G.prods.getD k default) = true → ∀ j, j < k + 1 → prodB nt ns (G.prods.getD j default) = true) := fun h j hj => by
    rcases Nat.lt_or_ge j k with h1 | h1
    ·exact HJ.out j h1
    ·obtain rfl : j = k := by omega
     exact h
   have HN := hid (hV1.out k hlt)
   have i1 : (k : Int) < (np : Int) := by omega
   have i0 : (0 : Int) ≤ (k : Int) := by omega
   have kp2 := hid fun W hb => kp.out W hb k hlt
   obtain ⟨⟨ra, rc, hrk, _⟩, _⟩ := HG.out.rights k (by omega)
   rw [hrk] at d2 kp2
   clear hrk
   clear hc HJ hV1 hV2 hV3 hp ho kp k1 k2 k3 c0 c1 c2 c3 c4
   generalize prodB nt ns (G.prods.getD k default) = pb at *
   generalize G.prods.getD k default = P at *
   generalize P.rs.length = rl at *
   have a0 := fun o => cell_alloc (o := o) f0
   have a1 := fun o => cell_alloc (o := o) f1
   have a2 := fun o => cell_alloc (o := o) f2
   have a3 := fun o => cell_alloc (o := o) f3
   have a4 := fun o => cell_alloc (o := o) f4
   go_wp2_with fail
   refine (kp2.out _ (hw.alloc hsw _)).mono ?_
   rintro e w2 ⟨rfl, hb2⟩
   replace hw := (hw.alloc hsw _).trans (hb2.mono (by simp; omega))
   cases pb
   ·have HN2 := hid (HN.out rfl)
    go_wp2
    go_ret
    exact ⟨by rw [HN2.out] <;> rfl, hb.trans (hw.mono hsz)⟩
   ·have HS2 := hid (HS.out rfl)
    go_wp2
    exact ⟨⟨k + 1, by omega, by go_num, hw, HS2.out⟩, by simp [RowKit.intOf]; omega⟩
  ·have hkk : k = np := by omega
   subst hkk
   replace hV3 := hid (hV3.out HJ.out)
   clear HJ hV1 hp kp
   go_wp2_with fail
   clear f0 f1 f2 f3 f4
   go_loopw [38] (fun i wr => ∃ k : Nat, k ≤ no ∧ i = .int .i64 (k : Int) ∧ Below W1.heap.size W1 wr ∧ ∀ j, j < k → pairB nt (G.over.getD j (0, 0)) = true) (fun i _ => no - (RowKit.intOf i).toNat)
   case atStart => exact ⟨0, by omega, rfl, hw, fun j hj => by omega⟩
   case round =>
    clear hw hsw
    obtain ⟨q, hq, rfl, hw, hj⟩ := hrel
    have HJ := hid hj
    clear hj
    have hsw := hw.size
    have f0 := cell_below hw c0
    have f1 := cell_below hw c1
    have f2 := cell_below hw c2
    have f3 := cell_below hw c3
    have f4 := cell_below hw c4
    by_cases hlt2 : q < no
    ·obtain ⟨b2, off2, rfl, hc⟩ := ho (by omega)
     obtain ⟨d0, d1⟩ := hc q hlt2
     replace d0 := cell_below hw d0
     replace d1 := cell_below hw d1
     have HS : Hid (pairB nt (G.over.getD q (0, 0)) = true → ∀ j, j < q + 1 → pairB nt (G.over.getD j (0, 0)) = true) := fun h j hj => by
      rcases Nat.lt_or_ge j q with h1 | h1
      ·exact HJ.out j h1
      ·obtain rfl : j = q := by omega
       exact h
     have HN := hid (hV2.out q hlt2)
     have i1 : (q : Int) < (no : Int) := by omega
     have i0 : (0 : Int) ≤ (q : Int) := by omega
     have a0 := fun o => cell_alloc (o := o) f0
     have hpb : pairB nt (G.over.getD q (0, 0)) = (decide (0 ≤ (G.over.getD q (0, 0)).1 ∧ (G.over.getD q (0, 0)).1 < nt) && decide (0 ≤ (G.over.getD q (0, 0)).2 ∧ (G.over.getD q (0, 0)).2 < nt)) := rfl
     have m1 := hid fun w => among_is (G.over.getD q (0, 0)).1 nt w
     have m2 := hid fun w => among_is (G.over.getD q (0, 0)).2 nt w
     clear hc HJ hV2 hV3 ho k1 k2 k3 c0 c1 c2 c3 c4
     generalize pairB nt (G.over.getD q (0, 0)) = pb at *
     generalize decide (0 ≤ (G.over.getD q (0, 0)).1 ∧ (G.over.getD q (0, 0)).1 < nt) = z1 at *
     generalize decide (0 ≤ (G.over.getD q (0, 0)).2 ∧ (G.over.getD q (0, 0)).2 < nt) = z2 at *
     generalize (G.over.getD q (0, 0)).1 = x1 at *
     generalize (G.over.getD q (0, 0)).2 = x2 at *
     have hw2 := hw.alloc hsw (.cells #[.int .i64 x1, .int .i64 x2] 94)
     cases z1
     ·obtain rfl : pb = false := hpb
      have HN2 := hid (HN.out rfl)
      go_wp2_with fail
      refine (m1.out _).mono ?_
      rintro e w' ⟨rfl, rfl⟩
      go_wp2
      go_ret
      exact ⟨by rw [HN2.out] <;> rfl, hb.trans (hw2.mono hsz)⟩
     ·cases z2
      ·obtain rfl : pb = false := hpb
       have HN2 := hid (HN.out rfl)
       go_wp2_with fail
       refine (m1.out _).mono ?_
       rintro e w' ⟨rfl, rfl⟩
       go_wp2_with fail
       refine (m2.out _).mono ?_
       rintro e w' ⟨rfl, rfl⟩
       go_wp2
       go_ret
       exact ⟨by rw [HN2.out] <;> rfl, hb.trans (hw2.mono hsz)⟩
      ·obtain rfl : pb = true := hpb
       have HS2 := hid (HS.out rfl)
       go_wp2_with fail
       refine (m1.out _).mono ?_
       rintro e w' ⟨rfl, rfl⟩
       go_wp2_with fail
       refine (m2.out _).mono ?_
       rintro e w' ⟨rfl, rfl⟩
       go_wp2
       exact ⟨⟨q + 1, by omega, by go_num, hw2, HS2.out⟩, by simp [RowKit.intOf]; omega⟩
    ·have hkk : q = no := by omega
     subst hkk
     replace hV3 := hid (hV3.out HJ.out)
     clear HJ hV2
     have m0 := hid fun w => among_is st ns w
     generalize decide (0 ≤ st ∧ st < (ns : Int)) = v0 at *
     cases v0
     ·have HV : Hid (V = false) := hV3.out
      go_wp2_with fail
      refine (m0.out _).mono ?_
      rintro e w' ⟨rfl, rfl⟩
      go_wp2
      go_ret
      exact ⟨by rw [HV.out] <;> rfl, hb.trans (hw.mono hsz)⟩
     cases v1
     ·have HV : Hid (V = false) := hV3.out
      go_wp2_with fail
      refine (m0.out _).mono ?_
      rintro e w' ⟨rfl, rfl⟩
      go_wp2_with fail
      refine (k1.out _ hw).mono ?_
      rintro e w5 ⟨rfl, hb5⟩
      replace hw := hw.trans (hb5.mono hw.size)
      go_wp2
      go_ret
      exact ⟨by rw [HV.out] <;> rfl, hb.trans (hw.mono hsz)⟩
     cases v2
     ·have HV : Hid (V = false) := hV3.out
      go_wp2_with fail
      refine (m0.out _).mono ?_
      rintro e w' ⟨rfl, rfl⟩
      go_wp2_with fail
      refine (k1.out _ hw).mono ?_
      rintro e w5 ⟨rfl, hb5⟩
      replace hw := hw.trans (hb5.mono hw.size)
      replace f3 := cell_below hb5 f3
      go_wp2_with fail
      refine (k2.out _ hw).mono ?_
      rintro e w6 ⟨rfl, hb6⟩
      replace hw := hw.trans (hb6.mono hw.size)
      go_wp2
      go_ret
      exact ⟨by rw [HV.out] <;> rfl, hb.trans (hw.mono hsz)⟩
     have HV : Hid (V = v3) := hV3.out
     go_wp2_with fail
     refine (m0.out _).mono ?_
     rintro e w' ⟨rfl, rfl⟩
     go_wp2_with fail
     refine (k1.out _ hw).mono ?_
     rintro e w5 ⟨rfl, hb5⟩
     replace hw := hw.trans (hb5.mono hw.size)
     replace f3 := cell_below hb5 f3
     replace f0 := cell_below hb5 f0
     go_wp2_with fail
     refine (k2.out _ hw).mono ?_
     rintro e w6 ⟨rfl, hb6⟩
     replace hw := hw.trans (hb6.mono hw.size)
     replace f0 := cell_below hb6 f0
     go_wp2_with fail
     refine (k3.out _ hw).mono ?_
     rintro e w7 ⟨rfl, hb7⟩
     replace hw := hw.trans (hb7.mono hw.size)
     go_wp2
     go_ret
     exact ⟨by rw [HV.out] <;> rfl, hb.trans (hw.mono hsz)⟩
end Go.Proofs.YticmnfmijdgmbaaGreatDoor
