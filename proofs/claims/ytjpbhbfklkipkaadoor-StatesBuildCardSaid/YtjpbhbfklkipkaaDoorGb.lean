/- inst.Valid's inner calls. -/
import Derived.Deep.QuietTactic
import Derived.BigQuiet
import Derived.WalkSmall
import Derived.Deep.RegionHeld3
import Derived.Laws.BitsLemmas
import Derived.Test.YtjpbhbfklkipkaaDoorGa
namespace Go.Proofs.YtjpbhbfklkipkaaDoor
open Go Go.RowKit Go.Lib

theorem among_any (n c : Int) (w : World) : Calls Tryd.prog 37 #[.int .i64 n, .int .i64 c] w fun e w' => e = .returned (.bool (decide (0 ≤ n ∧ n < c))) ∧ w' = w := by
  go_enter Tryd.func37, Tryd.ntmps37
  go_wp2
  all_goals
    go_ret
    refine ⟨?_, rfl⟩
    refine congrArg (fun b => Ending.returned (Value.bool b)) ?_
    rw [Bool.eq_iff_iff]
    simp only [Bool.decide_and, Bool.and_eq_true, decide_eq_true_eq, Bool.false_eq_true, false_iff]
    omega

theorem name_s (x : ByteArray) (w : World) : Calls Tryd.prog 39 #[.string x] w fun e w' => e = .returned (.string x) ∧ w' = w := by
  go_enter Tryd.func39, Tryd.ntmps39
  go_wp2
  go_ret
  exact ⟨rfl, rfl⟩

/-- Is one text ahead of another one, or the same? -/
def leS (x y : ByteArray) : Bool := Op.bytesLess x.toList y.toList || x.toList == y.toList
theorem run_leS (x y : ByteArray) (w : World) : (binOp .leq 9 (.string x) (.string y)).run Tryd.prog w = .ok (.bool (leS x y)) w := rfl

/-- Do the texts rise, each once? -/
def riseB (l : List ByteArray) : Bool := decide (∀ k, k < l.length - 1 → leS (l.getD (k + 1) ByteArray.empty) (l.getD k ByteArray.empty) = false)

theorem rise_up {l : List ByteArray} (h : ∀ j, j < l.length - 1 → leS (l.getD (j + 1) ByteArray.empty) (l.getD j ByteArray.empty) = false) : riseB l = true := decide_eq_true h
theorem rise_no {l : List ByteArray} {k : Nat} (h1 : k + 1 < l.length) (h : leS (l.getD (k + 1) ByteArray.empty) (l.getD k ByteArray.empty) = true) : riseB l = false :=
  decide_eq_false fun h' => by have := h' k (by omega); rw [h] at this; cases this

theorem name_p (x : ByteArray) (s r c : Value) (w : World) : Calls Tryd.prog 41 #[.agg #[.string x, s, r, c]] w fun e w' => e = .returned (.string x) ∧ w' = w.alloc (.cells #[.string x, s, r, c] 64) := by
  go_enter Tryd.func41, Tryd.ntmps41
  go_wp2
  go_ret
  exact ⟨rfl, rfl⟩
theorem name_t (x : ByteArray) (s r c : Value) (w : World) : Calls Tryd.prog 43 #[.agg #[.string x, s, r, c]] w fun e w' => e = .returned (.string x) ∧ w' = w.alloc (.cells #[.string x, s, r, c] 69) := by
  go_enter Tryd.func43, Tryd.ntmps43
  go_wp2
  go_ret
  exact ⟨rfl, rfl⟩

set_option maxRecDepth 100000 in
set_option maxHeartbeats 1000000 in
theorem rise_s (l : List ByteArray) (sv : Value) (w : World) (h : StrsAt w sv l) : Calls Tryd.prog 38 #[sv, .func (.func 39) #[] #[]] w fun e w' => e = .returned (.bool (riseB l)) ∧ Below w.heap.size w w' := by
  obtain ⟨sa, sc, rfl, hsn, hs⟩ := h
  have RU := hid (rise_up (l := l))
  have RN := hid (fun k => rise_no (l := l) (k := k))
  generalize hB : riseB l = B at *
  clear hB
  generalize hnl : l.length = n at *
  go_enter Tryd.func38, Tryd.ntmps38
  go_wp2
  go_loopw [5] (fun i wr => ∃ k : Nat, (k + 1 ≤ n ∨ k = 0) ∧ i = .int .i64 ((k : Int) + 1) ∧ Below w.heap.size w wr ∧ ∀ j, j < k → leS (l.getD (j + 1) ByteArray.empty) (l.getD j ByteArray.empty) = false) (fun i _ => n - (RowKit.intOf i).toNat)
  case atStart => exact ⟨0, by omega, rfl, Below.refl _ _, fun j hj => by omega⟩
  case round =>
    obtain ⟨k, hk, rfl, hwb, hj⟩ := hrel
    have HJ := hid hj
    clear hj
    have hsz := hwb.size
    by_cases hlt : k + 1 < n
    · obtain ⟨b, off, rfl, hc⟩ := hs (by omega)
      have g1 := cell_below hwb (hc (k + 1) hlt)
      have g2 := cell_below hwb (hc k (by omega))
      have HS : Hid (leS (l.getD (k + 1) ByteArray.empty) (l.getD k ByteArray.empty) = false → ∀ j, j < k + 1 → leS (l.getD (j + 1) ByteArray.empty) (l.getD j ByteArray.empty) = false) := fun h j hj => by
        rcases Nat.lt_or_ge j k with h1 | h1
        · exact HJ.out j h1
        · obtain rfl : j = k := by omega
          exact h
      have HN := hid (RN.out k hlt)
      clear hc HJ
      generalize l.getD k ByteArray.empty = x at *
      generalize l.getD (k + 1) ByteArray.empty = y at *
      have i0 : (0 : Int) ≤ (k : Int) + 1 := by omega
      have i1 : (k : Int) + 1 < (n : Int) := by omega
      have i3 : (0 : Int) ≤ (k : Int) := by omega
      have i4 : (k : Int) < (n : Int) := by omega
      have i5 : IntKind.i64.wrap (k : Int) = (k : Int) := by rw [IntKind.wrap_i64]; omega
      have i6 : ((k : Int) + 1).toNat = k + 1 := by omega
      have r1 := run_leS y x
      generalize leS y x = LE at *
      go_wp2_with fail
      go_quiet ((go_at_call 39; exact Calls.quiet_of_same (name_s _ _)))
      replace hwb := below_drewN hwb nq
      clear i5 i6
      cases LE
      · have HS2 := hid (HS.out rfl)
        go_wp2
        exact ⟨⟨k + 1, by omega, by go_num, hwb, HS2.out⟩, by simp [RowKit.intOf]; omega⟩
      · have HN2 := hid (HN.out rfl)
        go_wp2
        go_ret
        exact ⟨by rw [HN2.out] <;> rfl, hwb⟩
    · have i1 : ¬ ((k : Int) + 1 < (n : Int)) := by omega
      have HT : Hid (B = true) := RU.out fun j hj => HJ.out j (by omega)
      go_wp2
      go_ret
      exact ⟨by rw [HT.out] <;> rfl, hwb⟩

set_option maxRecDepth 100000 in
set_option maxHeartbeats 1000000 in
theorem rise_p (l : List PD) (rv : Nat → Value) (sv : Value) (w : World) (h : ProdsAt w sv l rv) : Calls Tryd.prog 40 #[sv, .func (.func 41) #[] #[]] w fun e w' => e = .returned (.bool (riseB (l.map (·.lab)))) ∧ Below w.heap.size w w' := by
  obtain ⟨sa, sc, rfl, hsn, hs⟩ := h
  have RU := hid (rise_up (l := (l.map (·.lab))))
  have RN := hid (fun k => rise_no (l := (l.map (·.lab))) (k := k))
  have hln : (l.map (·.lab)).length = l.length := by simp
  generalize hB : riseB (l.map (·.lab)) = B at *
  rw [hln] at RU RN
  clear hB
  generalize hnl : l.length = n at *
  go_enter Tryd.func40, Tryd.ntmps40
  go_wp2
  go_loopw [5] (fun i wr => ∃ k : Nat, (k + 1 ≤ n ∨ k = 0) ∧ i = .int .i64 ((k : Int) + 1) ∧ Below w.heap.size w wr ∧ ∀ j, j < k → leS ((l.map (·.lab)).getD (j + 1) ByteArray.empty) ((l.map (·.lab)).getD j ByteArray.empty) = false) (fun i _ => n - (RowKit.intOf i).toNat)
  case atStart => exact ⟨0, by omega, rfl, Below.refl _ _, fun j hj => by omega⟩
  case round =>
    obtain ⟨k, hk, rfl, hwb, hj⟩ := hrel
    have HJ := hid hj
    clear hj
    have hsz := hwb.size
    by_cases hlt : k + 1 < n
    · obtain ⟨b, off, rfl, hc⟩ := hs (by omega)
      obtain ⟨c0, c1, c2, c3⟩ := hc (k + 1) hlt
      obtain ⟨d0, d1, d2, d3⟩ := hc k (by omega)
      replace c0 := cell_below hwb c0
      replace c1 := cell_below hwb c1
      replace c2 := cell_below hwb c2
      replace c3 := cell_below hwb c3
      replace d0 := cell_below hwb d0
      replace d1 := cell_below hwb d1
      replace d2 := cell_below hwb d2
      replace d3 := cell_below hwb d3
      have e1 : (l.map (·.lab)).getD k ByteArray.empty = (l.getD k default).lab := by simp [List.getD_eq_getElem?_getD, List.getElem?_eq_getElem (show k < l.length by omega)]
      have e2 : (l.map (·.lab)).getD (k + 1) ByteArray.empty = (l.getD (k + 1) default).lab := by simp [List.getD_eq_getElem?_getD, List.getElem?_eq_getElem (show k + 1 < l.length by omega)]
      rw [← e1] at d0
      rw [← e2] at c0
      clear e1 e2
      have HS : Hid (leS ((l.map (·.lab)).getD (k + 1) ByteArray.empty) ((l.map (·.lab)).getD k ByteArray.empty) = false → ∀ j, j < k + 1 → leS ((l.map (·.lab)).getD (j + 1) ByteArray.empty) ((l.map (·.lab)).getD j ByteArray.empty) = false) := fun h j hj => by
        rcases Nat.lt_or_ge j k with h1 | h1
        · exact HJ.out j h1
        · obtain rfl : j = k := by omega
          exact h
      have HN := hid (RN.out k hlt)
      clear hc HJ
      generalize (l.map (·.lab)).getD k ByteArray.empty = x at *
      generalize (l.map (·.lab)).getD (k + 1) ByteArray.empty = y at *
      generalize Value.int IntKind.i64 (l.getD (k + 1) default).sort = vc1 at *
      generalize rv (k + 1) = vc2 at *
      generalize Value.int IntKind.i64 (l.getD (k + 1) default).cls = vc3 at *
      generalize Value.int IntKind.i64 (l.getD k default).sort = vd1 at *
      generalize rv k = vd2 at *
      generalize Value.int IntKind.i64 (l.getD k default).cls = vd3 at *
      have i0 : (0 : Int) ≤ (k : Int) + 1 := by omega
      have i1 : (k : Int) + 1 < (n : Int) := by omega
      have i3 : (0 : Int) ≤ (k : Int) := by omega
      have i4 : (k : Int) < (n : Int) := by omega
      have i5 : IntKind.i64.wrap (k : Int) = (k : Int) := by rw [IntKind.wrap_i64]; omega
      have i6 : ((k : Int) + 1).toNat = k + 1 := by omega
      have r1 := run_leS y x
      generalize leS y x = LE at *
      go_wp2_with fail
      have hb1 := World.block_lt_of_cell? wr _ c0
      go_region_held3 (fun w' => w'.cell? ⟨b, off + (k + 1) * 4, none⟩ = some (.string y) ∧ w'.cell? ⟨b, off + (k + 1) * 4 + 1, none⟩ = some vc1 ∧ w'.cell? ⟨b, off + (k + 1) * 4 + 2, none⟩ = some vc2 ∧ w'.cell? ⟨b, off + (k + 1) * 4 + 3, none⟩ = some vc3 ∧ w'.cell? ⟨b, off + k * 4, none⟩ = some (.string x) ∧ w'.cell? ⟨b, off + k * 4 + 1, none⟩ = some vd1 ∧ w'.cell? ⟨b, off + k * 4 + 2, none⟩ = some vd2 ∧ w'.cell? ⟨b, off + k * 4 + 3, none⟩ = some vd3)
        (go_keep)
        ((go_at_call 41; refine (name_p _ _ _ _ _).mono ?_; rintro e w6 ⟨rfl, rfl⟩))
      replace hwb := ((hwb.alloc hsz (.cells #[.string y, vc1, vc2, vc3] 64)).alloc (by simp; omega) (.cells #[.string x, vd1, vd2, vd3] 64)).drew
      clear i5 i6
      cases LE
      · have HS2 := hid (HS.out rfl)
        go_wp2
        exact ⟨⟨k + 1, by omega, by go_num, hwb, HS2.out⟩, by simp [RowKit.intOf]; omega⟩
      · have HN2 := hid (HN.out rfl)
        go_wp2
        go_ret
        exact ⟨by rw [HN2.out] <;> rfl, hwb⟩
    · have i1 : ¬ ((k : Int) + 1 < (n : Int)) := by omega
      have HT : Hid (B = true) := RU.out fun j hj => HJ.out j (by omega)
      go_wp2
      go_ret
      exact ⟨by rw [HT.out] <;> rfl, hwb⟩


set_option maxRecDepth 100000 in
set_option maxHeartbeats 1000000 in
theorem rise_t (l : List ByteArray) (tf : Nat → Nat → Value) (sv : Value) (w : World) (h : TermsAt w sv l tf) : Calls Tryd.prog 42 #[sv, .func (.func 43) #[] #[]] w fun e w' => e = .returned (.bool (riseB l)) ∧ Below w.heap.size w w' := by
  obtain ⟨sa, sc, rfl, hsn, hs⟩ := h
  have RU := hid (rise_up (l := l))
  have RN := hid (fun k => rise_no (l := l) (k := k))
  generalize hB : riseB l = B at *
  clear hB
  generalize hnl : l.length = n at *
  go_enter Tryd.func42, Tryd.ntmps42
  go_wp2
  go_loopw [5] (fun i wr => ∃ k : Nat, (k + 1 ≤ n ∨ k = 0) ∧ i = .int .i64 ((k : Int) + 1) ∧ Below w.heap.size w wr ∧ ∀ j, j < k → leS (l.getD (j + 1) ByteArray.empty) (l.getD j ByteArray.empty) = false) (fun i _ => n - (RowKit.intOf i).toNat)
  case atStart => exact ⟨0, by omega, rfl, Below.refl _ _, fun j hj => by omega⟩
  case round =>
    obtain ⟨k, hk, rfl, hwb, hj⟩ := hrel
    have HJ := hid hj
    clear hj
    have hsz := hwb.size
    by_cases hlt : k + 1 < n
    · obtain ⟨b, off, rfl, hc⟩ := hs (by omega)
      obtain ⟨c0, c1, c2, c3⟩ := hc (k + 1) hlt
      obtain ⟨d0, d1, d2, d3⟩ := hc k (by omega)
      replace c0 := cell_below hwb c0
      replace c1 := cell_below hwb c1
      replace c2 := cell_below hwb c2
      replace c3 := cell_below hwb c3
      replace d0 := cell_below hwb d0
      replace d1 := cell_below hwb d1
      replace d2 := cell_below hwb d2
      replace d3 := cell_below hwb d3
      have HS : Hid (leS (l.getD (k + 1) ByteArray.empty) (l.getD k ByteArray.empty) = false → ∀ j, j < k + 1 → leS (l.getD (j + 1) ByteArray.empty) (l.getD j ByteArray.empty) = false) := fun h j hj => by
        rcases Nat.lt_or_ge j k with h1 | h1
        · exact HJ.out j h1
        · obtain rfl : j = k := by omega
          exact h
      have HN := hid (RN.out k hlt)
      clear hc HJ
      generalize l.getD k ByteArray.empty = x at *
      generalize l.getD (k + 1) ByteArray.empty = y at *
      generalize tf (k + 1) 1 = vc1 at *
      generalize tf (k + 1) 2 = vc2 at *
      generalize tf (k + 1) 3 = vc3 at *
      generalize tf k 1 = vd1 at *
      generalize tf k 2 = vd2 at *
      generalize tf k 3 = vd3 at *
      have i0 : (0 : Int) ≤ (k : Int) + 1 := by omega
      have i1 : (k : Int) + 1 < (n : Int) := by omega
      have i3 : (0 : Int) ≤ (k : Int) := by omega
      have i4 : (k : Int) < (n : Int) := by omega
      have i5 : IntKind.i64.wrap (k : Int) = (k : Int) := by rw [IntKind.wrap_i64]; omega
      have i6 : ((k : Int) + 1).toNat = k + 1 := by omega
      have r1 := run_leS y x
      generalize leS y x = LE at *
      go_wp2_with fail
      have hb1 := World.block_lt_of_cell? wr _ c0
      go_region_held3 (fun w' => w'.cell? ⟨b, off + (k + 1) * 4, none⟩ = some (.string y) ∧ w'.cell? ⟨b, off + (k + 1) * 4 + 1, none⟩ = some vc1 ∧ w'.cell? ⟨b, off + (k + 1) * 4 + 2, none⟩ = some vc2 ∧ w'.cell? ⟨b, off + (k + 1) * 4 + 3, none⟩ = some vc3 ∧ w'.cell? ⟨b, off + k * 4, none⟩ = some (.string x) ∧ w'.cell? ⟨b, off + k * 4 + 1, none⟩ = some vd1 ∧ w'.cell? ⟨b, off + k * 4 + 2, none⟩ = some vd2 ∧ w'.cell? ⟨b, off + k * 4 + 3, none⟩ = some vd3)
        (go_keep)
        ((go_at_call 43; refine (name_t _ _ _ _ _).mono ?_; rintro e w6 ⟨rfl, rfl⟩))
      replace hwb := ((hwb.alloc hsz (.cells #[.string y, vc1, vc2, vc3] 69)).alloc (by simp; omega) (.cells #[.string x, vd1, vd2, vd3] 69)).drew
      clear i5 i6
      cases LE
      · have HS2 := hid (HS.out rfl)
        go_wp2
        exact ⟨⟨k + 1, by omega, by go_num, hwb, HS2.out⟩, by simp [RowKit.intOf]; omega⟩
      · have HN2 := hid (HN.out rfl)
        go_wp2
        go_ret
        exact ⟨by rw [HN2.out] <;> rfl, hwb⟩
    · have i1 : ¬ ((k : Int) + 1 < (n : Int)) := by omega
      have HT : Hid (B = true) := RU.out fun j hj => HJ.out j (by omega)
      go_wp2
      go_ret
      exact ⟨by rw [HT.out] <;> rfl, hwb⟩

end Go.Proofs.YtjpbhbfklkipkaaDoor
