/- inst.Valid. -/
import Derived.Test.YtjpbhbfklkipkaaDoorGb
namespace Go.Proofs.YtjpbhbfklkipkaaDoor
open Go Go.RowKit Go.Lib

/-- Is there such a symbol? -/
def symB (nt ns : Nat) (s : Int) : Bool := decide (0 ≤ s ∧ s < nt ∨ s < 0 ∧ -1 - s < ns)
/-- May a production be? -/
def prodB (nt ns : Nat) (p : PD) : Bool := decide (0 ≤ p.sort ∧ p.sort < ns) && decide (p.rs.length ≤ 12) && p.rs.all (symB nt ns)

theorem prodB_up {nt ns : Nat} {p : PD} (h1 : 0 ≤ p.sort ∧ p.sort < ns) (h2 : p.rs.length ≤ 12) (h3 : ∀ j, j < p.rs.length → symB nt ns (p.rs.getD j 0) = true) : prodB nt ns p = true := by
  unfold prodB
  rw [decide_eq_true h1, decide_eq_true h2, Bool.true_and, Bool.true_and, List.all_eq_true]
  intro x hx
  obtain ⟨j, hj, rfl⟩ := List.getElem_of_mem hx
  have := h3 j hj
  rwa [List.getD_eq_getElem?_getD, List.getElem?_eq_getElem hj] at this
theorem prodB_sort {nt ns : Nat} {p : PD} (h : ¬ (0 ≤ p.sort ∧ p.sort < ns)) : prodB nt ns p = false := by
  unfold prodB; rw [decide_eq_false h]; rfl
theorem prodB_long {nt ns : Nat} {p : PD} (h : ¬ (p.rs.length ≤ 12)) : prodB nt ns p = false := by
  unfold prodB; rw [decide_eq_false h, Bool.and_false]; rfl
theorem prodB_sym {nt ns : Nat} {p : PD} {j : Nat} (hj : j < p.rs.length) (h : symB nt ns (p.rs.getD j 0) = false) : prodB nt ns p = false := by
  unfold prodB
  rw [show p.rs.all (symB nt ns) = false from ?_, Bool.and_false]
  rw [Bool.eq_false_iff]
  intro h'
  rw [List.all_eq_true] at h'
  have := h' _ (List.getElem_mem hj)
  rw [List.getD_eq_getElem?_getD, List.getElem?_eq_getElem hj] at h
  rw [show symB nt ns p.rs[j] = false from h] at this
  cases this

theorem among_is (n c : Int) (w : World) : Calls Tryd.prog 37 #[.int .i64 n, .int .i64 c] w fun e w' => e = .returned (.bool (decide (0 ≤ n ∧ n < c))) ∧ w = w' :=
  (among_any n c w).mono fun _ _ ⟨h1, h2⟩ => ⟨h1, h2.symm⟩

theorem pr_box (w : World) (lab : ByteArray) (s : Int) (r c : Value) :
    ∃ W1 B, W1 = w.alloc (.cells #[.string lab, .int .i64 s, r, c] 64) ∧ B = w.heap.size ∧ W1.cell? ⟨B, 0, none⟩ = some (.string lab) ∧ W1.cell? ⟨B, 1, none⟩ = some (.int .i64 s) ∧ W1.cell? ⟨B, 2, none⟩ = some r ∧
      W1.cell? ⟨B, 3, none⟩ = some c ∧ Below w.heap.size w W1 := by
  refine ⟨_, _, rfl, rfl, ?_, ?_, ?_, ?_, (Below.refl _ _).alloc (Nat.le_refl _) _⟩ <;> (rw [World.cell?_alloc_mark]; rfl)

set_option maxRecDepth 100000 in
set_option maxHeartbeats 1000000 in
theorem prodValid_any {G : GD} {gv tv ov sv pv : Value} {tf : Nat → Nat → Value} {rv : Nat → Value} {w : World} (h : GrAt w gv G tv ov sv pv tf rv) (p : PD) (rp : Value) (hp : IntsAt w rp p.rs) :
    Calls Tryd.prog 36 #[gv, .agg #[.string p.lab, .int .i64 p.sort, rp, .int .i64 p.cls]] w fun e w' => e = .returned (.bool (prodB G.terms.length G.sorts.length p)) ∧ Below w.heap.size w w' := by
  obtain ⟨W1, B, hW1, hB, c0, c1, c2, c3, c4, hG, hb, hsz⟩ := gr_box h
  obtain ⟨W2, B2, hW2, hB2, d0, d1, d2, d3, hb2⟩ := pr_box W1 p.lab p.sort rp (.int .i64 p.cls)
  have ht := hG.terms
  have hs := hG.sorts
  have hgv := hG.eq
  replace hp := (hp.mono hb).mono hb2
  obtain ⟨⟨ra, rc, rfl, hrn, hrc⟩, hri⟩ := hp
  replace c0 := cell_below hb2 c0
  replace c2 := cell_below hb2 c2
  replace hb := hb.trans (hb2.mono hsz)
  have hsz2 : W1.heap.size = w.heap.size + 1 := by rw [hW1]; simp
  rw [hsz2, ← hB] at hB2
  clear hG h c1 c3 c4 hb2 hsz d0 d3 hsz2
  subst hgv
  obtain ⟨ta, tc, rfl, htn, _⟩ := ht
  obtain ⟨sa, sc, rfl, hsn, _⟩ := hs
  have PS := hid (prodB_sort (p := p) (nt := G.terms.length) (ns := G.sorts.length))
  have PL := hid (prodB_long (p := p) (nt := G.terms.length) (ns := G.sorts.length))
  have PN := hid (fun j => prodB_sym (p := p) (nt := G.terms.length) (ns := G.sorts.length) (j := j))
  have PU := hid (prodB_up (p := p) (nt := G.terms.length) (ns := G.sorts.length))
  generalize prodB G.terms.length G.sorts.length p = PB at *
  generalize G.terms.length = nt at *
  generalize G.sorts.length = ns at *
  have kS := hid fun w => among_is p.sort (ns : Int) w
  have kT := hid fun (s : Int) w => among_is s (nt : Int) w
  have kN := hid fun (s : Int) w => among_is (-1 - s) (ns : Int) w
  by_cases hso : 0 ≤ p.sort ∧ p.sort < ns
  case neg =>
    rw [decide_eq_false hso] at kS
    have PS' := hid (PS.out hso)
    clear hso PL PN PU kT kN hrc hri
    go_enter Tryd.func36, Tryd.ntmps36
    go_wp2_with fail
    rw [← hW1, ← hW2, ← hB, ← hB2]
    clear hW1 hW2 hB hB2
    refine (kS.out _).mono ?_
    rintro e w' ⟨rfl, rfl⟩
    go_wp2
    go_ret
    exact ⟨by rw [PS'.out] <;> rfl, hb⟩
  rw [decide_eq_true hso] at kS
  replace PU := hid (PU.out hso)
  clear PS hso
  generalize p.sort = so at *
  generalize hrs : p.rs = rs at *
  clear hrs
  generalize hrl : rs.length = rl at *
  by_cases h12 : rl ≤ 12
  case neg =>
    have PL' := hid (PL.out h12)
    have h12' : (12 : Int) < (rl : Int) := by omega
    clear PN PU kT kN hrc hri
    go_enter Tryd.func36, Tryd.ntmps36
    go_wp2_with fail
    rw [← hW1, ← hW2, ← hB, ← hB2]
    clear hW1 hW2 hB hB2
    refine (kS.out _).mono ?_
    rintro e w' ⟨rfl, rfl⟩
    go_wp2
    go_ret
    exact ⟨by rw [PL'.out] <;> rfl, hb⟩
  have h12' : (rl : Int) ≤ 12 := by omega
  replace PU := hid (PU.out h12)
  clear PL
  have HI : Hid (∀ j, j < rl → -9223372036854775808 ≤ rs.getD j 0 ∧ rs.getD j 0 ≤ 9223372036854775807) := fun j hj => hri _ (by
    rw [List.getD_eq_getElem?_getD, List.getElem?_eq_getElem (by omega)]; exact List.getElem_mem _)
  clear hri
  go_enter Tryd.func36, Tryd.ntmps36
  go_wp2_with fail
  rw [← hW1, ← hW2, ← hB, ← hB2]
  clear hW1 hW2 hB hB2
  refine (kS.out _).mono ?_
  rintro e w' ⟨rfl, rfl⟩
  go_wp2
  go_loop [23] (fun i => ∃ k : Nat, k ≤ rl ∧ i = .int .i64 (k : Int) ∧ ∀ j, j < k → symB nt ns (rs.getD j 0) = true) (fun i => rl - (RowKit.intOf i).toNat)
  case atStart => exact ⟨0, by omega, rfl, fun j hj => by omega⟩
  case round =>
    obtain ⟨k, hk, rfl, hj⟩ := hrel
    have HJ := hid hj
    clear hj
    by_cases hlt : k < rl
    · obtain ⟨b, off, rfl, hc⟩ := hrc (by omega)
      have e0 := hc k hlt
      obtain ⟨m1, m2⟩ := HI.out k hlt
      have HS : Hid (symB nt ns (rs.getD k 0) = true → ∀ j, j < k + 1 → symB nt ns (rs.getD j 0) = true) := fun h j hj => by
        rcases Nat.lt_or_ge j k with h1 | h1
        · exact HJ.out j h1
        · obtain rfl : j = k := by omega
          exact h
      have HN := hid (PN.out k hlt)
      have i1 : (k : Int) < (rl : Int) := by omega
      have i0 : (0 : Int) ≤ (k : Int) := by omega
      clear hc HJ PN PU hrc
      generalize rs.getD k 0 = s at *
      have hsy : symB nt ns s = decide (0 ≤ s ∧ s < nt ∨ s < 0 ∧ -1 - s < ns) := rfl
      generalize symB nt ns s = sb at *
      by_cases hs0 : 0 ≤ s
      · replace kT := hid (kT.out s)
        by_cases hst : s < nt
        · rw [decide_eq_true ⟨hs0, hst⟩] at kT
          rw [decide_eq_true (by omega)] at hsy
          subst hsy
          have HS2 := hid (HS.out rfl)
          clear HS HN hst kN
          go_wp2_with fail
          refine (kT.out _).mono ?_
          rintro e w' ⟨rfl, rfl⟩
          go_wp2
          exact ⟨⟨k + 1, by omega, by go_num, HS2.out⟩, by simp [RowKit.intOf]; omega⟩
        · rw [decide_eq_false (fun h => hst h.2)] at kT
          rw [decide_eq_false (by omega)] at hsy
          subst hsy
          have HN2 := hid (HN.out rfl)
          clear HS HN hst kN
          go_wp2_with fail
          refine (kT.out _).mono ?_
          rintro e w' ⟨rfl, rfl⟩
          go_wp2
          go_ret
          exact ⟨by rw [HN2.out] <;> rfl, hb⟩
      · replace kN := hid (kN.out s)
        have hs1 : s < 0 := by omega
        have i5 : IntKind.i64.wrap (-1 - s) = -1 - s := by rw [IntKind.wrap_i64]; omega
        by_cases hst : -1 - s < ns
        · rw [decide_eq_true ⟨by omega, hst⟩] at kN
          rw [decide_eq_true (by omega)] at hsy
          subst hsy
          have HS2 := hid (HS.out rfl)
          clear HS HN hst kT hs0
          go_wp2_with fail
          refine (kN.out _).mono ?_
          rintro e w' ⟨rfl, rfl⟩
          go_wp2
          exact ⟨⟨k + 1, by omega, by go_num, HS2.out⟩, by simp [RowKit.intOf]; omega⟩
        · rw [decide_eq_false (fun h => hst h.2)] at kN
          rw [decide_eq_false (by omega)] at hsy
          subst hsy
          have HN2 := hid (HN.out rfl)
          clear HS HN hst kT hs0
          go_wp2_with fail
          refine (kN.out _).mono ?_
          rintro e w' ⟨rfl, rfl⟩
          go_wp2
          go_ret
          exact ⟨by rw [HN2.out] <;> rfl, hb⟩
    · have i1 : ¬ ((k : Int) < (rl : Int)) := by omega
      have HT : Hid (PB = true) := PU.out fun j hj => HJ.out j (by omega)
      clear PU PN HI
      go_wp2
      go_ret
      exact ⟨by rw [HT.out] <;> rfl, hb⟩

end Go.Proofs.YtjpbhbfklkipkaaDoor
