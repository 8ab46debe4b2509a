/- sets.rows' of: with what a row of symbols begins. -/
import Derived.Test.YtmfobiimihaiiaaHs
import Derived.Test.YtmfobiimihaiiaaHb
import Derived.Test.YtmfobiimihaiiaaGi
namespace Go.Proofs.Ytmfobiimihaiiaa
open Go Go.RowKit Go.Lib Go.Joins

abbrev sets (F : List Nat) : Array Value := (F.map u64).toArray
abbrev rowsV (nt eb fb n : Nat) : Value := .agg #[.int .i64 (nt : Int), .slice (some ⟨eb, 0, none⟩) n n, .slice (some ⟨fb, 0, none⟩) n n]

theorem cell_sets {W : World} {fb : Nat} {F : List Nat} (h : W.heap[fb]? = some (.cells (sets F) 30)) {i : Nat} (hi : i < F.length) : W.cell? ⟨fb, i, none⟩ = some (u64 (F.getD i 0)) := by
  rw [cell_of_block h]; simp [List.getD_eq_getElem?_getD, hi]
theorem cell_bools {W : World} {fb : Nat} {F : List Bool} (h : W.heap[fb]? = some (.cells (F.map Value.bool).toArray 4)) {i : Nat} (hi : i < F.length) : W.cell? ⟨fb, i, none⟩ = some (.bool (F.getD i false)) := by
  rw [cell_of_block h]; simp [List.getD_eq_getElem?_getD, hi]
theorem heap_keep {W W' : World} (h : Below W.heap.size W W') {k : Nat} {o : Obj} (ho : W.heap[k]? = some o) : W'.heap[k]? = some o :=
  (h.block k (Array.getElem?_eq_some_iff.1 ho).1).trans ho

set_option maxRecDepth 100000 in
set_option maxHeartbeats 2000000 in
theorem of_any {W : World} {eb fb n nt : Nat} {E : List Bool} {F : List Nat} {l : List Int} {lv : Value} {b : Nat} (hE : W.heap[eb]? = some (.cells (E.map Value.bool).toArray 4)) (hF : W.heap[fb]? = some (.cells (sets F) 30))
    (hEl : E.length = n) (hFl : F.length = n) (hFt : ∀ x ∈ F, x < top) (hb : b < top) (hl : IntsAt W lv l) :
    Calls Try.prog 37 #[rowsV nt eb fb n, lv, u64 b] W fun e W' => e = .returned (u64 (ofRow nt E F l b)) ∧ Below W.heap.size W W' := by
  obtain ⟨W1, hW1⟩ : ∃ W1, W1 = W.alloc (.cells #[.int .i64 (nt : Int), .slice (some ⟨eb, 0, none⟩) n n, .slice (some ⟨fb, 0, none⟩) n n] 55) := ⟨_, rfl⟩
  have hB : Below W.heap.size W W1 := by rw [hW1]; exact (Below.refl _ _).alloc (Nat.le_refl _) _
  have c0 : W1.cell? ⟨W.heap.size, 0, none⟩ = some (.int .i64 (nt : Int)) := by rw [hW1, World.cell?_alloc_mark]; rfl
  have c1 : W1.cell? ⟨W.heap.size, 1, none⟩ = some (.slice (some ⟨eb, 0, none⟩) n n) := by rw [hW1, World.cell?_alloc_mark]; rfl
  have c2 : W1.cell? ⟨W.heap.size, 2, none⟩ = some (.slice (some ⟨fb, 0, none⟩) n n) := by rw [hW1, World.cell?_alloc_mark]; rfl
  replace hE := hid (heap_keep hB hE)
  replace hF := hid (heap_keep hB hF)
  obtain ⟨⟨la, lc, rfl, hln, hlc⟩, hlr⟩ := hl.mono hB
  clear hl
  have hL := ofRow_lt nt E hFt l hb
  have ku := hid (fun (a c : Nat) ha hc w => Union_any a c ha hc w)
  have kw := hid (fun (a : Nat) (s : Int) ha w => With_any a s ha w)
  have hR0 : Hid (0 ||| ofRow nt E F l b = ofRow nt E F l b) := Nat.zero_or _
  generalize hres : ofRow nt E F l b = R at *
  generalize hll : l.length = ll at *
  have HM : Hid (∀ k, k < ll → -9223372036854775808 ≤ l.getD k 0 ∧ l.getD k 0 ≤ 9223372036854775807) := fun k hk => hlr _ (mem_getD (by omega))
  have HD : Hid (∀ k, k < ll → l.drop k = l.getD k 0 :: l.drop (k + 1)) := fun k hk => by
    rw [List.drop_eq_getElem_cons (by omega), List.getD_eq_getElem?_getD, List.getElem?_eq_getElem (by omega)]; rfl
  clear hlr
  go_enter Try.func37, Try.ntmps37
  go_wp2_with fail
  rw [← hW1]
  clear hW1
  go_loop [7, 12] (fun o i => ∃ (k a : Nat), k ≤ ll ∧ i = .int .i64 (k : Int) ∧ o = u64 a ∧ a < top ∧ a ||| ofRow nt E F (l.drop k) b = R) (fun _ i => ll - (RowKit.intOf i).toNat)
  case atStart => exact ⟨0, 0, by omega, rfl, rfl, by decide, by rw [List.drop_zero, hres]; exact hR0.out⟩
  case round =>
    obtain ⟨k, a, hk, rfl, rfl, ha, hr⟩ := hrel
    by_cases hlt : k < ll
    · obtain ⟨lb, lo, rfl, hcc⟩ := hlc (by omega)
      have g1 := hcc k hlt
      obtain ⟨m1, m2⟩ := HM.out k hlt
      rw [HD.out k hlt] at hr
      have hof : ofRow nt E F (l.getD k 0 :: l.drop (k + 1)) b = if 0 ≤ l.getD k 0 then (if l.getD k 0 < nt then bitN (l.getD k 0) else 0) else if (F.length : Int) ≤ -1 - l.getD k 0 then 0 else
        F.getD (-1 - l.getD k 0).toNat 0 ||| (if E.getD (-1 - l.getD k 0).toNat false = true then ofRow nt E F (l.drop (k + 1)) b else 0) := rfl
      rw [hof] at hr
      clear hof hcc
      have i0 : (0 : Int) ≤ (k : Int) := by omega
      have i1 : (k : Int) < (ll : Int) := by omega
      generalize hrest : ofRow nt E F (l.drop (k + 1)) b = rest at *
      generalize l.getD k 0 = s at *
      by_cases hs0 : 0 ≤ s
      · rw [if_pos hs0] at hr
        by_cases hst : s < nt
        · rw [if_pos hst] at hr
          have HR := hid hr
          clear hr
          go_wp2_with fail
          refine (kw.out a s ha _).mono ?_
          rintro e w' ⟨rfl, rfl⟩
          go_wp2
          go_ret
          exact ⟨by rw [← HR.out] <;> rfl, hB⟩
        · rw [if_neg hst, Nat.or_zero] at hr
          have HR := hid hr
          clear hr
          go_wp2
          go_ret
          exact ⟨by rw [← HR.out] <;> rfl, hB⟩
      · rw [if_neg hs0, hFl] at hr
        have hs1 : s < 0 := by omega
        have i5 : IntKind.i64.wrap (-1 - s) = -1 - s := by rw [IntKind.wrap_i64]; omega
        by_cases hsn : (n : Int) ≤ -1 - s
        · rw [if_pos hsn, Nat.or_zero] at hr
          have HR := hid hr
          clear hr
          go_wp2
          go_ret
          exact ⟨by rw [← HR.out] <;> rfl, hB⟩
        · rw [if_neg hsn] at hr
          have j0 : 0 ≤ -1 - s := by omega
          have j1 : -1 - s < n := by omega
          have g2 := cell_sets hF.out (i := (-1 - s).toNat) (by omega)
          have g3 := cell_bools hE.out (i := (-1 - s).toNat) (by omega)
          have hft := getD_lt hFt (-1 - s).toNat
          generalize F.getD (-1 - s).toNat 0 = f at *
          generalize E.getD (-1 - s).toNat false = eb at *
          cases eb
          · rw [if_neg (by simp), Nat.or_zero] at hr
            have HR := hid hr
            clear hr
            go_wp2_with fail
            refine (ku.out a f ha hft _).mono ?_
            rintro e w' ⟨rfl, rfl⟩
            go_wp2
            go_ret
            exact ⟨by rw [← HR.out] <;> rfl, hB⟩
          · rw [if_pos rfl] at hr
            have HR : Hid ((a ||| f) ||| rest = R) := by rw [Nat.or_assoc]; exact hr
            have hor := or_lt ha hft
            clear hr
            go_wp2_with fail
            refine (ku.out a f ha hft _).mono ?_
            rintro e w' ⟨rfl, rfl⟩
            go_wp2
            exact ⟨⟨k + 1, a ||| f, by omega, by go_num, rfl, hor, by rw [hrest]; exact HR.out⟩, by simp [RowKit.intOf]; omega⟩
    · have hkk : k = ll := by omega
      have hd : l.drop k = [] := List.drop_eq_nil_of_le (by omega)
      rw [hd] at hr
      have hr2 : Hid (a ||| b = R) := hr
      clear hr hd
      have i1 : ¬ ((k : Int) < (ll : Int)) := by omega
      go_wp2_with fail
      refine (ku.out a b ha hb _).mono ?_
      rintro e w' ⟨rfl, rfl⟩
      go_wp2
      go_ret
      exact ⟨by rw [← hr2.out] <;> rfl, hB⟩

end Go.Proofs.Ytmfobiimihaiiaa
