/- The document's own answer: with what a row begins. -/
import Derived.Test.YtmfobiimihaiiaaJe
import Derived.Test.YtmfobiimihaiiaaHx
namespace Go.Proofs.Ytmfobiimihaiiaa
open Go Go.RowKit Go.Lib Go.Joins

theorem ROf_one (s : Int) (w : World) (b : Nat) (h : w.cell? ⟨b, 0, none⟩ = some (.int .i64 s)) : Calls Try.prog 38 #[.slice (some ⟨b, 0, none⟩) 1 1] w fun e w' => e = .returned (u64 (bitN s)) ∧ Below w.heap.size w w' := by
  have hr : Reads w (.slice (some ⟨b, 0, none⟩) 1 1) [s] := ⟨_, _, rfl, fun _ => ⟨b, 0, rfl, fun i hi => by
    obtain rfl : i = 0 := by simpa using hi
    simpa using h⟩⟩
  refine (ROf_reads (by simp) hr).mono ?_
  rintro e w' ⟨h1, h2⟩
  refine ⟨by rw [h1]; simp [ofN], ?_⟩
  first
    | (rw [h2]; exact Below.refl _ _)
    | (rw [← h2]; exact Below.refl _ _)
    | exact h2

set_option maxRecDepth 100000 in
set_option maxHeartbeats 2000000 in
theorem Rrow_any {G : GD} {gv tv ov sv pv : Value} {tf : Nat → Nat → Value} {rv : Nat → Value} {W : World} (h : GrAt W gv G tv ov sv pv tf rv) {eb fb b : Nat} {E : List Bool} {F : List Nat} {l : List Int} {lv : Value}
    (hE : W.heap[eb]? = some (.cells (E.map Value.bool).toArray 4)) (hF : W.heap[fb]? = some (.cells (sets F) 30)) (hEl : E.length = G.sorts.length) (hFl : F.length = G.sorts.length) (hFt : ∀ x ∈ F, x < top) (hb : b < top) (hl : IntsAt W lv l) :
    Calls Try.prog 33 #[gv, .slice (some ⟨eb, 0, none⟩) G.sorts.length G.sorts.length, .slice (some ⟨fb, 0, none⟩) G.sorts.length G.sorts.length, lv, u64 b] W fun e W' => e = .returned (u64 (ofRow G.terms.length E F l b)) ∧ Below W.heap.size W W' := by
  obtain ⟨W1, B, hW1, hB, c0, c1, c2, c3, c4, hG, hbb, hsz⟩ := gr_box h
  subst hB
  have hgv := h.eq
  have ht := hG.terms
  have hs := hG.sorts
  subst hgv
  obtain ⟨ta, tc, rfl, htn, _⟩ := ht
  obtain ⟨sa, sc, rfl, hsn, _⟩ := hs
  clear h hG
  replace hE := hid (heap_keep hbb hE)
  replace hF := hid (heap_keep hbb hF)
  have HLR := hid (hl.mono hbb).2
  obtain ⟨⟨la, lc, rfl, hln, hlc⟩, _⟩ := hl.mono hbb
  have HLC := hid hlc
  clear hl hlc
  have hL := ofRow_lt G.terms.length E hFt l hb
  have ku := hid (fun (a c : Nat) ha hc w => RUnion_any a c ha hc w)
  have hR0 : Hid (0 ||| ofRow G.terms.length E F l b = ofRow G.terms.length E F l b) := Nat.zero_or _
  generalize G.sorts.length = ns at *
  generalize G.terms.length = nt at *
  generalize hres : ofRow nt E F l b = R at *
  generalize hll : l.length = ll at *
  have HM : Hid (∀ k, k < ll → -9223372036854775808 ≤ l.getD k 0 ∧ l.getD k 0 ≤ 9223372036854775807) := fun k hk => HLR.out _ (mem_getD (by omega))
  have HD : Hid (∀ k, k < ll → l.drop k = l.getD k 0 :: l.drop (k + 1)) := fun k hk => by
    rw [List.drop_eq_getElem_cons (by omega), List.getD_eq_getElem?_getD, List.getElem?_eq_getElem (by omega)]; rfl
  have HLL := hid hll
  clear hll
  go_enter Try.func33, Try.ntmps33
  go_wp2_with fail
  rw [← hW1]
  clear hW1
  go_loopw [11, 12] (fun o i wr => ∃ (k a : Nat), k ≤ ll ∧ i = .int .i64 (k : Int) ∧ o = .int .u64 (a : Int) ∧ a < top ∧ a ||| ofRow nt E F (l.drop k) b = R ∧ Below W1.heap.size W1 wr) (fun _ i _ => ll - (RowKit.intOf i).toNat)
  case atStart => exact ⟨0, 0, by omega, rfl, rfl, by decide, by rw [List.drop_zero, hres]; exact hR0.out, Below.refl _ _⟩
  case round =>
    obtain ⟨k, a, hk, rfl, rfl, ha, hr, hBW⟩ := hrel
    have d0 := cell_below hBW c0
    have d2 := cell_below hBW c2
    by_cases hlt : k < ll
    · obtain ⟨lb, lo, rfl, hcc⟩ := HLC.out (by omega)
      have g1 : W1.cell? ⟨lb, lo + k, none⟩ = some (.int .i64 (l.getD k 0)) := hcc k hlt
      replace g1 := cell_below hBW g1
      obtain ⟨m1, m2⟩ := HM.out k hlt
      rw [HD.out k hlt] at hr
      have hof : ofRow nt E F (l.getD k 0 :: l.drop (k + 1)) b = if 0 ≤ l.getD k 0 then (if l.getD k 0 < nt then bitN (l.getD k 0) else 0) else if (F.length : Int) ≤ -1 - l.getD k 0 then 0 else
        F.getD (-1 - l.getD k 0).toNat 0 ||| (if E.getD (-1 - l.getD k 0).toNat false = true then ofRow nt E F (l.drop (k + 1)) b else 0) := rfl
      rw [hof] at hr
      clear hof hcc
      have i0 : (0 : Int) ≤ (k : Int) := by omega
      have i1 : (k : Int) < (ll : Int) := by omega
      generalize hrest : ofRow nt E F (l.drop (k + 1)) b = rest at *
      have HRE := hid hrest
      clear hrest
      obtain ⟨s, hs⟩ : ∃ s, l.getD k 0 = s := ⟨_, rfl⟩
      rw [hs] at g1 m1 m2 hr
      clear hs
      by_cases hs0 : 0 ≤ s
      · rw [if_pos hs0] at hr
        have hs1 : ¬ (s < 0) := by omega
        have b1 : decide (s < 0) = false := decide_eq_false hs1
        have b0 : decide (0 ≤ s) = true := decide_eq_true hs0
        by_cases hst : s < nt
        · rw [if_pos hst] at hr
          have b2 : decide ((nt : Int) ≤ s) = false := decide_eq_false (by omega)
          have HR := hid hr
          clear hr
          go_wp2_with fail
          refine (ROf_one s _ _ (by simp)).mono ?_
          rintro e w5 ⟨rfl, hB5⟩
          have HB5 := hid ((below_al (Below.refl _ wr) _).trans (hB5.mono (below_al (Below.refl _ wr) _).size))
          clear hB5
          go_wp2_with fail
          refine (ku.out a _ ha (bitN_lt s) _).mono ?_
          rintro e w6 ⟨rfl, hB6⟩
          go_wp2
          go_ret
          exact ⟨by rw [← HR.out] <;> rfl, hbb.trans ((hBW.trans ((HB5.out.trans (hB6.mono HB5.out.size)).mono hBW.size)).mono hsz)⟩
        · rw [if_neg hst, Nat.or_zero] at hr
          have b2 : decide ((nt : Int) ≤ s) = true := decide_eq_true (by omega)
          have HR := hid hr
          clear hr
          go_wp2
          go_ret
          exact ⟨by rw [← HR.out] <;> rfl, hbb.trans (hBW.mono hsz)⟩
      · rw [if_neg hs0, hFl] at hr
        have hs1 : s < 0 := by omega
        have b1 : decide (s < 0) = true := decide_eq_true hs1
        have b0 : decide (0 ≤ s) = false := decide_eq_false hs0
        have b2 : decide ((nt : Int) ≤ s) = false := decide_eq_false (by omega)
        have i5 : IntKind.i64.wrap (-1 - s) = -1 - s := by rw [IntKind.wrap_i64]; omega
        by_cases hsn : (ns : Int) ≤ -1 - s
        · rw [if_pos hsn, Nat.or_zero] at hr
          have b3 : decide ((ns : Int) ≤ -1 - s) = true := decide_eq_true hsn
          have HR := hid hr
          clear hr
          go_wp2
          go_ret
          exact ⟨by rw [← HR.out] <;> rfl, hbb.trans (hBW.mono hsz)⟩
        · rw [if_neg hsn] at hr
          have b3 : decide ((ns : Int) ≤ -1 - s) = false := decide_eq_false hsn
          have j0 : 0 ≤ -1 - s := by omega
          have j1 : -1 - s < ns := by omega
          have g2 := cell_sets (heap_keep hBW hF.out) (i := (-1 - s).toNat) (by omega)
          have g3 := cell_bools (heap_keep hBW hE.out) (i := (-1 - s).toNat) (by omega)
          have hft := getD_lt hFt (-1 - s).toNat
          generalize F.getD (-1 - s).toNat 0 = f at *
          generalize E.getD (-1 - s).toNat false = eb at *
          cases eb
          · rw [if_neg (by simp), Nat.or_zero] at hr
            have HR := hid hr
            clear hr
            go_wp2_with fail
            refine (ku.out a f ha hft _).mono ?_
            rintro e w5 ⟨rfl, hB5⟩
            replace g3 := cell_below hB5 g3
            go_wp2
            go_ret
            exact ⟨by rw [← HR.out] <;> rfl, hbb.trans ((hBW.trans (hB5.mono hBW.size)).mono hsz)⟩
          · rw [if_pos rfl] at hr
            have HR : Hid ((a ||| f) ||| rest = R) := by rw [Nat.or_assoc]; exact hr
            have hor := or_lt ha hft
            clear hr
            go_wp2_with fail
            refine (ku.out a f ha hft _).mono ?_
            rintro e w5 ⟨rfl, hB5⟩
            replace g3 := cell_below hB5 g3
            have HB5 := hid (hBW.trans (hB5.mono hBW.size))
            clear hB5
            go_wp2
            exact ⟨⟨k + 1, a ||| f, by omega, by go_num, rfl, hor, by rw [HRE.out]; exact HR.out, HB5.out⟩, by simp [RowKit.intOf]; omega⟩
    · have hd : l.drop k = [] := List.drop_eq_nil_of_le (by have := HLL.out; omega)
      rw [hd] at hr
      have hr2 : Hid (a ||| b = R) := hr
      clear hr hd
      have i1 : ¬ ((k : Int) < (ll : Int)) := by omega
      go_wp2_with fail
      refine (ku.out a b ha hb _).mono ?_
      rintro e w5 ⟨rfl, hB5⟩
      go_wp2
      go_ret
      exact ⟨by rw [← hr2.out] <;> rfl, hbb.trans ((hBW.trans (hB5.mono hBW.size)).mono hsz)⟩

end Go.Proofs.Ytmfobiimihaiiaa
