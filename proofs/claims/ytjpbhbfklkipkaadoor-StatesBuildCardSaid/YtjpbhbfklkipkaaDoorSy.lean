/- Go. -/
import Derived.Test.YtjpbhbfklkipkaaDoorSx
namespace Go.Proofs.YtjpbhbfklkipkaaDoor
open Go Go.RowKit Go.Lib
open X14 (It)
set_option linter.unusedVariables false
set_option linter.unusedSimpArgs false
def placeX (G : GD) (s : Int) : Option Nat := if 0 ≤ s then (if s < (G.terms.length : Int) then some s.toNat else none) else (if -1 - s < (G.sorts.length : Int) then some (G.terms.length + (-1 - s).toNat) else none)
def goX (G : GD) (nx : List (List Int)) (at_ s : Int) : Int := if 0 ≤ at_ ∧ at_ < (nx.length : Int) then (match placeX G s with
  | none => -1
  | some p => (nx.getD at_.toNat []).getD p (-1)) else -1
def NxOk (G : GD) (nx : List (List Int)) : Prop := ∀ R ∈ nx, R.length = G.terms.length + G.sorts.length ∧ ∀ v ∈ R, v = -1 ∨ (0 ≤ v ∧ v < (nx.length : Int))
theorem NxOk.nil (G : GD) : NxOk G [] := fun R h => by cases h
theorem NxOk.built {G : GD} {n : Nat} (h : X14.BuiltOk G n) : NxOk G (X14.iterB G n).nx := fun R hR => by
  obtain ⟨i, hi⟩ := List.mem_iff_getElem?.1 hR
  obtain ⟨hI, ha, hl⟩ := h.inv
  have hrl := hI.rl i R hi
  rw [X14.symsX_len] at hrl
  refine ⟨hrl, fun v hv => ?_⟩
  obtain ⟨k, hk⟩ := List.mem_iff_getElem?.1 hv
  have hil := (List.getElem?_eq_some_iff.1 hi).1
  have hkl := (List.getElem?_eq_some_iff.1 hk).1
  have hnl := (X14.iterB_at G n).2
  obtain ⟨s, hs⟩ : ∃ s, (X14.symsX G)[k]? = some s := ⟨_, List.getElem?_eq_getElem (by rw [X14.symsX_len]; omega)⟩
  rcases hI.to_ (by rw [ha]; omega) hs hi hk with ⟨e, _⟩ | ⟨q, e, _, hq, _⟩
  · exact .inl e
  · exact .inr ⟨by omega, by omega⟩
theorem goX_off {G : GD} {nx : List (List Int)} {at_ s : Int} (h : ¬ (0 ≤ at_ ∧ at_ < (nx.length : Int))) : goX G nx at_ s = -1 := by unfold goX; rw [if_neg h]
theorem goX_none {G : GD} {nx : List (List Int)} {at_ s : Int} (h : placeX G s = none) : goX G nx at_ s = -1 := by
  unfold goX
  split
  · rw [h]
  · rfl
theorem goX_at {G : GD} {nx : List (List Int)} {i p : Nat} {s v : Int} {R : List Int} (h : placeX G s = some p) (hi : nx[i]? = some R) (hp : R[p]? = some v) : goX G nx (i : Int) s = v := by
  have hl := (List.getElem?_eq_some_iff.1 hi).1
  unfold goX
  rw [if_pos ⟨Int.natCast_nonneg _, by omega⟩, h]
  show (nx.getD i []).getD p (-1) = v
  rw [X14.getD_get hi, X14.getD_get hp]
set_option maxRecDepth 100000 in
set_option maxHeartbeats 8000000 in
theorem Go_any {G : GD} {gv av : Value} {w : World} {ker : List (List It)} {nx : List (List Int)} (h : Gram w gv G) (ha : AutAt w av ker nx) (hok : NxOk G nx) (at_ s : Int) (s0 : -9223372036854775808 ≤ s) (s1 : s ≤ 9223372036854775807) :
    Calls Tryd.prog 22 #[gv, av, .int .i64 at_, .int .i64 s] w fun e w' => e = .returned (.int .i64 (goX G nx at_ s)) ∧ Below w.heap.size w w' := by
  obtain ⟨tv, ov, sv, pv, tf, rv, h⟩ := h
  have hgv := h.eq
  subst hgv
  obtain ⟨to_, tc, rfl, htn, _⟩ := h.terms
  obtain ⟨so, sc, rfl, hsn, _⟩ := h.sorts
  obtain ⟨kv, nv, rfl, hkv, hnv⟩ := ha
  obtain ⟨no, nc, rfl, hnn⟩ := hnv.len
  obtain ⟨W1, e1⟩ : ∃ W1, w.alloc (.cells #[.slice to_ G.terms.length tc, ov, .slice so G.sorts.length sc, pv, .int .i64 G.start] 27) = W1 := ⟨_, rfl⟩
  have hb1 : Below w.heap.size w W1 := by rw [← e1]; exact (Below.refl _ _).alloc (Nat.le_refl _) _
  have n1 : W1.heap[w.heap.size]? = some (.cells #[.slice to_ G.terms.length tc, ov, .slice so G.sorts.length sc, pv, .int .i64 G.start] 27 (0, 0)) := by rw [← e1]; exact new_block _ _
  obtain ⟨W2, e2⟩ : ∃ W2, W1.alloc (.cells #[kv, .slice no nx.length nc] 49) = W2 := ⟨_, rfl⟩
  have hb2 : Below W1.heap.size W1 W2 := by rw [← e2]; exact (Below.refl _ _).alloc (Nat.le_refl _) _
  have n2 : W2.heap[W1.heap.size]? = some (.cells #[kv, .slice no nx.length nc] 49 (0, 0)) := by rw [← e2]; exact new_block _ _
  have hbw := hb1.trans (hb2.mono hb1.size)
  have n1' := (hb2.block _ (Array.getElem?_eq_some_iff.1 n1).1).trans n1
  have lW := (Array.getElem?_eq_some_iff.1 n2).1
  have c0 : W2.cell? ⟨w.heap.size, 0, none⟩ = some (.slice to_ G.terms.length tc) := Lib.cell_of_heap n1' 0
  have c2 : W2.cell? ⟨w.heap.size, 2, none⟩ = some (.slice so G.sorts.length sc) := Lib.cell_of_heap n1' 2
  have d1 : W2.cell? ⟨W1.heap.size, 1, none⟩ = some (.slice no nx.length nc) := Lib.cell_of_heap n2 1
  have HBW := hid hbw
  have HNV := hid (hnv.below (q := fun i u => IntsAt W2 u (nx.getD i [])) hbw fun i u hu => hu.mono hbw)
  have HOK := hid hok
  obtain ⟨r, hr⟩ : ∃ r, goX G nx at_ s = r := ⟨_, rfl⟩
  have HR := hid hr
  rw [hr]
  obtain ⟨nt, hnt⟩ : ∃ nt, G.terms.length = nt := ⟨_, rfl⟩
  obtain ⟨ns, hns⟩ : ∃ ns, G.sorts.length = ns := ⟨_, rfl⟩
  obtain ⟨n, hn⟩ : ∃ n, nx.length = n := ⟨_, rfl⟩
  have HN := hid hn
  have HLEN := hid (show ∀ R ∈ nx, R.length = nt + ns ∧ ∀ v ∈ R, v = -1 ∨ (0 ≤ v ∧ v < (n : Int)) from by rw [← hnt, ← hns, ← hn]; exact hok)
  have hPX : placeX G s = if 0 ≤ s then (if s < (nt : Int) then some s.toNat else none) else (if -1 - s < (ns : Int) then some (nt + (-1 - s).toNat) else none) := by unfold placeX; rw [hnt, hns]
  have HPX := hid hPX
  rw [hnt, hns] at e1 ⊢
  rw [hn] at e2 d1 ⊢
  rw [hnt] at c0
  rw [hns] at c2
  clear h hkv hnv hok hb1 hb2 n1 n2 n1' hbw hr hnt hns hn hPX
  by_cases hat : 0 ≤ at_ ∧ at_ < (n : Int)
  case neg =>
    obtain rfl : -1 = r := by rw [← HR.out, goX_off (by rw [HN.out]; exact hat)]
    by_cases ha0 : at_ < 0
    · have z0 : decide (at_ < 0) = true := decide_eq_true ha0
      clear hat
      go_enter Tryd.func22, Tryd.ntmps22
      go_wp2_with fail
      go_ret
      exact ⟨rfl, HBW.out⟩
    · have z0 : decide (at_ < 0) = false := decide_eq_false ha0
      have z1 : (n : Int) ≤ at_ := by omega
      clear hat
      go_enter Tryd.func22, Tryd.ntmps22
      go_wp2_with fail
      go_ret
      exact ⟨rfl, HBW.out⟩
  obtain ⟨i, rfl⟩ : ∃ i : Nat, at_ = (i : Int) := ⟨at_.toNat, by omega⟩
  have hin : i < n := by omega
  have z0 : decide ((i : Int) < 0) = false := decide_eq_false (by omega)
  have z1 : decide (n ≤ i) = false := decide_eq_false (by omega)
  have z2 : ¬ (n : Int) ≤ (i : Int) := by omega
  have i0 : (0 : Int) ≤ (i : Int) := by omega
  have i1 : (i : Int) < (n : Int) := by omega
  clear hat
  obtain ⟨R, hRx⟩ : ∃ R, nx[i]? = some R := ⟨_, List.getElem?_eq_getElem (by rw [HN.out]; exact hin)⟩
  have HRX := hid hRx
  obtain ⟨hRl, hRv⟩ := HLEN.out R (List.mem_of_getElem? hRx)
  have hnv2 := HNV.out
  obtain ⟨nb, noff, u, rfl, u1, u2⟩ := hnv2.at_ (k := i) (by rw [HN.out]; exact hin)
  rw [X14.getD_get hRx] at u2
  obtain ⟨⟨ro, rc, rfl, hrn, hrq⟩, _⟩ := u2
  clear hnv2 hRx
  by_cases hs : s < 0
  · have y0 : decide (s < 0) = true := decide_eq_true hs
    have hws : IntKind.i64.wrap (-1 - s) = -1 - s := wrap_small (by omega) (by omega)
    by_cases hq : -1 - s < (ns : Int)
    · obtain ⟨t, hst⟩ : ∃ t : Nat, -1 - s = (t : Int) := ⟨(-1 - s).toNat, by omega⟩
      have y1 : ¬ (ns : Int) ≤ (t : Int) := by omega
      have y2 : decide (ns ≤ t) = false := decide_eq_false (by omega)
      have HPL := hid (show placeX G s = some (t + nt) from by rw [HPX.out, if_neg (by omega), if_pos hq, hst, Int.toNat_natCast, Nat.add_comm])
      have hpl : t + nt < nt + ns := by omega
      rw [hst] at hws
      obtain ⟨v, hv⟩ : ∃ v, R[t + nt]? = some v := ⟨_, List.getElem?_eq_getElem (by omega)⟩
      obtain rfl : v = r := by rw [← HR.out, goX_at HPL.out HRX.out hv]
      have hvv := hRv v (List.mem_of_getElem? hv)
      have hvl := (List.getElem?_eq_some_iff.1 hv).1
      obtain ⟨rb, roff, rfl, hrq2⟩ := hrq (by omega)
      have u3 := hrq2 (t + nt) hvl
      dsimp only at u3
      rw [X14.getD_get hv] at u3
      have k1 : ¬ (R.length : Int) ≤ ((t : Int) + (nt : Int)) := by omega
      have k2 : decide ((R.length : Int) ≤ ((t : Int) + (nt : Int))) = false := decide_eq_false k1
      have k3 : ((t : Int) + (nt : Int)) < (R.length : Int) := by omega
      have k4 : (0 : Int) ≤ ((t : Int) + (nt : Int)) := by omega
      have k6 : (((t : Int) + (nt : Int))).toNat = t + nt := by omega
      have k5 : decide (R.length ≤ t + nt) = false := decide_eq_false (by omega)
      have HQ0 : Hid (∀ w', Below W2.heap.size W2 w' → w'.cell? ⟨rb, roff + (t + nt), none⟩ = some (.int .i64 v)) := hid fun w' hC => cell_below hC u3
      have HQ1 : Hid (∀ w', Below W2.heap.size W2 w' → w'.cell? ⟨W1.heap.size, 1, none⟩ = some (.slice (some ⟨nb, noff, none⟩) n nc)) := hid fun w' hC => cell_below hC d1
      have hrl60 : nt + ns ≤ 9223372036854775807 := by omega
      clear hrq hrq2 hRv hv hRl
      clear hq
      rcases hvv with rfl | ⟨v0, v1⟩
      · go_enter Tryd.func22, Tryd.ntmps22
        go_wp2_with fail
        refine wp_region_below (by kernel_rfl) (by kernel_rfl) ?_
        with_reducible refine BigFrame.wpQuiet_want (by kernel_rfl) (fun K hK => ?_)
        apply Exists.intro
        refine ⟨fun w' hC => ?_, hK _ ?_⟩
        · unfold Oper.quietAt
          go_simp
          first | with_reducible rfl | done
        clear hK K
        try simp only [Act.put, List.setIfInBounds_toArray, List.set_cons_zero, List.set_cons_succ]
        with_reducible refine BigFrame.wpQuiet_want (by kernel_rfl) (fun K hK => ?_)
        apply Exists.intro
        refine ⟨fun w' hC => ?_, hK _ ?_⟩
        · unfold Oper.quietAt
          go_simp
          first | with_reducible rfl | done
        clear hK K
        try simp only [Act.put, List.setIfInBounds_toArray, List.set_cons_zero, List.set_cons_succ]
        with_reducible refine BigFrame.wpQuiet_want (by kernel_rfl) (fun K hK => ?_)
        apply Exists.intro
        refine ⟨fun w' hC => ?_, hK _ ?_⟩
        · unfold Oper.quietAt
          go_simp
          first | with_reducible rfl | done
        clear hK K
        try simp only [Act.put, List.setIfInBounds_toArray, List.set_cons_zero, List.set_cons_succ]
        with_reducible refine BigFrame.wpQuiet_want (by kernel_rfl) (fun K hK => ?_)
        apply Exists.intro
        refine ⟨fun w' hC => ?_, hK _ ?_⟩
        · unfold Oper.quietAt
          go_simp
          first | with_reducible rfl | done
        clear hK K
        try simp only [Act.put, List.setIfInBounds_toArray, List.set_cons_zero, List.set_cons_succ]
        with_reducible refine BigFrame.wpQuiet_want (by kernel_rfl) (fun K hK => ?_)
        apply Exists.intro
        refine ⟨fun w' hC => ?_, hK _ ?_⟩
        · unfold Oper.quietAt
          go_simp
          first | with_reducible rfl | done
        clear hK K
        try simp only [Act.put, List.setIfInBounds_toArray, List.set_cons_zero, List.set_cons_succ]
        with_reducible refine BigFrame.wpQuiet_want (by kernel_rfl) (fun K hK => ?_)
        apply Exists.intro
        refine ⟨fun w' hC => ?_, hK _ ?_⟩
        · unfold Oper.quietAt
          go_simp
          first | with_reducible rfl | done
        clear hK K
        try simp only [Act.put, List.setIfInBounds_toArray, List.set_cons_zero, List.set_cons_succ]
        with_reducible refine BigFrame.wpQuiet_want (by kernel_rfl) (fun K hK => ?_)
        apply Exists.intro
        refine ⟨fun w' hC => ?_, hK _ ?_⟩
        · unfold Oper.quietAt
          go_simp
          first | with_reducible rfl | done
        clear hK K
        try simp only [Act.put, List.setIfInBounds_toArray, List.set_cons_zero, List.set_cons_succ]
        with_reducible refine BigFrame.wpQuiet_want (by kernel_rfl) (fun K hK => ?_)
        apply Exists.intro
        refine ⟨fun w' hC => ?_, hK _ ?_⟩
        · unfold Oper.quietAt
          go_simp
          first | with_reducible rfl | done
        clear hK K
        try simp only [Act.put, List.setIfInBounds_toArray, List.set_cons_zero, List.set_cons_succ]
        with_reducible refine BigFrame.wpQuiet_want (by kernel_rfl) (fun K hK => ?_)
        apply Exists.intro
        refine ⟨fun w' hC => ?_, hK _ ?_⟩
        · have f0' := HQ0.out w' hC
          have f1' := HQ1.out w' hC
          unfold Oper.quietAt
          go_simp
          first | with_reducible rfl | done
        clear hK K
        try simp only [Act.put, List.setIfInBounds_toArray, List.set_cons_zero, List.set_cons_succ]
        with_reducible refine BigFrame.wpQuiet_want (by kernel_rfl) (fun K hK => ?_)
        apply Exists.intro
        refine ⟨fun w' hC => ?_, hK _ ?_⟩
        · unfold Oper.quietAt
          go_simp
          first | with_reducible rfl | done
        clear hK K
        try simp only [Act.put, List.setIfInBounds_toArray, List.set_cons_zero, List.set_cons_succ]
        with_reducible refine BigFrame.wpQuiet_want (by kernel_rfl) (fun K hK => ?_)
        apply Exists.intro
        refine ⟨fun w' hC => ?_, hK _ ?_⟩
        · unfold Oper.quietAt
          go_simp
          first | with_reducible rfl | done
        clear hK K
        try simp only [Act.put, List.setIfInBounds_toArray, List.set_cons_zero, List.set_cons_succ]
        with_reducible refine BigFrame.wpQuiet_want (by kernel_rfl) (fun K hK => ?_)
        apply Exists.intro
        refine ⟨fun w' hC => ?_, hK _ ?_⟩
        · unfold Oper.quietAt
          go_simp
          first | with_reducible rfl | done
        clear hK K
        try simp only [Act.put, List.setIfInBounds_toArray, List.set_cons_zero, List.set_cons_succ]
        with_reducible refine BigFrame.wpQuiet_skip (by kernel_rfl) ?_
        try simp only [Act.put, List.setIfInBounds_toArray, List.set_cons_zero, List.set_cons_succ]
        with_reducible refine BigFrame.wpQuiet_skip (by kernel_rfl) ?_
        try simp only [Act.put, List.setIfInBounds_toArray, List.set_cons_zero, List.set_cons_succ]
        with_reducible refine BigFrame.wpQuiet_skip (by kernel_rfl) ?_
        try simp only [Act.put, List.setIfInBounds_toArray, List.set_cons_zero, List.set_cons_succ]
        with_reducible refine BigFrame.wpQuiet_skip (by kernel_rfl) ?_
        try simp only [Act.put, List.setIfInBounds_toArray, List.set_cons_zero, List.set_cons_succ]
        with_reducible refine BigFrame.wpQuiet_skip (by kernel_rfl) ?_
        try simp only [Act.put, List.setIfInBounds_toArray, List.set_cons_zero, List.set_cons_succ]
        with_reducible refine BigFrame.wpQuiet_skip (by kernel_rfl) ?_
        try simp only [Act.put, List.setIfInBounds_toArray, List.set_cons_zero, List.set_cons_succ]
        with_reducible refine BigFrame.wpQuiet_skip (by kernel_rfl) ?_
        try simp only [Act.put, List.setIfInBounds_toArray, List.set_cons_zero, List.set_cons_succ]
        with_reducible refine BigFrame.wpQuiet_skip (by kernel_rfl) ?_
        try simp only [Act.put, List.setIfInBounds_toArray, List.set_cons_zero, List.set_cons_succ]
        with_reducible refine BigFrame.wpQuiet_want (by kernel_rfl) (fun K hK => ?_)
        apply Exists.intro
        refine ⟨fun w' hC => ?_, hK _ ?_⟩
        · unfold Oper.quietAt
          go_simp
          first | with_reducible rfl | done
        clear hK K
        try simp only [Act.put, List.setIfInBounds_toArray, List.set_cons_zero, List.set_cons_succ]
        refine wpQuiet_nil ?_
        intro w6 hb6
        have HB6 := hid (HBW.out.trans (hb6.mono HBW.out.size))
        clear hb6
        go_wp2_with fail
        go_ret
        exact ⟨rfl, HB6.out⟩
      · obtain ⟨vn, rfl⟩ : ∃ vn : Nat, v = (vn : Int) := ⟨v.toNat, by omega⟩
        have x0 : decide ((vn : Int) < 0) = false := decide_eq_false (by omega)
        have x1 : decide (n ≤ vn) = false := decide_eq_false (by omega)
        have x2 : ¬ (n : Int) ≤ (vn : Int) := by omega
        go_enter Tryd.func22, Tryd.ntmps22
        go_wp2_with fail
        refine wp_region_below (by kernel_rfl) (by kernel_rfl) ?_
        with_reducible refine BigFrame.wpQuiet_want (by kernel_rfl) (fun K hK => ?_)
        apply Exists.intro
        refine ⟨fun w' hC => ?_, hK _ ?_⟩
        · unfold Oper.quietAt
          go_simp
          first | with_reducible rfl | done
        clear hK K
        try simp only [Act.put, List.setIfInBounds_toArray, List.set_cons_zero, List.set_cons_succ]
        with_reducible refine BigFrame.wpQuiet_want (by kernel_rfl) (fun K hK => ?_)
        apply Exists.intro
        refine ⟨fun w' hC => ?_, hK _ ?_⟩
        · unfold Oper.quietAt
          go_simp
          first | with_reducible rfl | done
        clear hK K
        try simp only [Act.put, List.setIfInBounds_toArray, List.set_cons_zero, List.set_cons_succ]
        with_reducible refine BigFrame.wpQuiet_want (by kernel_rfl) (fun K hK => ?_)
        apply Exists.intro
        refine ⟨fun w' hC => ?_, hK _ ?_⟩
        · unfold Oper.quietAt
          go_simp
          first | with_reducible rfl | done
        clear hK K
        try simp only [Act.put, List.setIfInBounds_toArray, List.set_cons_zero, List.set_cons_succ]
        with_reducible refine BigFrame.wpQuiet_want (by kernel_rfl) (fun K hK => ?_)
        apply Exists.intro
        refine ⟨fun w' hC => ?_, hK _ ?_⟩
        · unfold Oper.quietAt
          go_simp
          first | with_reducible rfl | done
        clear hK K
        try simp only [Act.put, List.setIfInBounds_toArray, List.set_cons_zero, List.set_cons_succ]
        with_reducible refine BigFrame.wpQuiet_want (by kernel_rfl) (fun K hK => ?_)
        apply Exists.intro
        refine ⟨fun w' hC => ?_, hK _ ?_⟩
        · unfold Oper.quietAt
          go_simp
          first | with_reducible rfl | done
        clear hK K
        try simp only [Act.put, List.setIfInBounds_toArray, List.set_cons_zero, List.set_cons_succ]
        with_reducible refine BigFrame.wpQuiet_want (by kernel_rfl) (fun K hK => ?_)
        apply Exists.intro
        refine ⟨fun w' hC => ?_, hK _ ?_⟩
        · unfold Oper.quietAt
          go_simp
          first | with_reducible rfl | done
        clear hK K
        try simp only [Act.put, List.setIfInBounds_toArray, List.set_cons_zero, List.set_cons_succ]
        with_reducible refine BigFrame.wpQuiet_want (by kernel_rfl) (fun K hK => ?_)
        apply Exists.intro
        refine ⟨fun w' hC => ?_, hK _ ?_⟩
        · unfold Oper.quietAt
          go_simp
          first | with_reducible rfl | done
        clear hK K
        try simp only [Act.put, List.setIfInBounds_toArray, List.set_cons_zero, List.set_cons_succ]
        with_reducible refine BigFrame.wpQuiet_want (by kernel_rfl) (fun K hK => ?_)
        apply Exists.intro
        refine ⟨fun w' hC => ?_, hK _ ?_⟩
        · unfold Oper.quietAt
          go_simp
          first | with_reducible rfl | done
        clear hK K
        try simp only [Act.put, List.setIfInBounds_toArray, List.set_cons_zero, List.set_cons_succ]
        with_reducible refine BigFrame.wpQuiet_want (by kernel_rfl) (fun K hK => ?_)
        apply Exists.intro
        refine ⟨fun w' hC => ?_, hK _ ?_⟩
        · have f0' := HQ0.out w' hC
          have f1' := HQ1.out w' hC
          unfold Oper.quietAt
          go_simp
          first | with_reducible rfl | done
        clear hK K
        try simp only [Act.put, List.setIfInBounds_toArray, List.set_cons_zero, List.set_cons_succ]
        with_reducible refine BigFrame.wpQuiet_want (by kernel_rfl) (fun K hK => ?_)
        apply Exists.intro
        refine ⟨fun w' hC => ?_, hK _ ?_⟩
        · unfold Oper.quietAt
          go_simp
          first | with_reducible rfl | done
        clear hK K
        try simp only [Act.put, List.setIfInBounds_toArray, List.set_cons_zero, List.set_cons_succ]
        with_reducible refine BigFrame.wpQuiet_want (by kernel_rfl) (fun K hK => ?_)
        apply Exists.intro
        refine ⟨fun w' hC => ?_, hK _ ?_⟩
        · unfold Oper.quietAt
          go_simp
          first | with_reducible rfl | done
        clear hK K
        try simp only [Act.put, List.setIfInBounds_toArray, List.set_cons_zero, List.set_cons_succ]
        with_reducible refine BigFrame.wpQuiet_want (by kernel_rfl) (fun K hK => ?_)
        apply Exists.intro
        refine ⟨fun w' hC => ?_, hK _ ?_⟩
        · unfold Oper.quietAt
          go_simp
          first | with_reducible rfl | done
        clear hK K
        try simp only [Act.put, List.setIfInBounds_toArray, List.set_cons_zero, List.set_cons_succ]
        with_reducible refine BigFrame.wpQuiet_want (by kernel_rfl) (fun K hK => ?_)
        apply Exists.intro
        refine ⟨fun w' hC => ?_, hK _ ?_⟩
        · unfold Oper.quietAt
          go_simp
          first | with_reducible rfl | done
        clear hK K
        try simp only [Act.put, List.setIfInBounds_toArray, List.set_cons_zero, List.set_cons_succ]
        with_reducible refine BigFrame.wpQuiet_want (by kernel_rfl) (fun K hK => ?_)
        apply Exists.intro
        refine ⟨fun w' hC => ?_, hK _ ?_⟩
        · unfold Oper.quietAt
          go_simp
          first | with_reducible rfl | done
        clear hK K
        try simp only [Act.put, List.setIfInBounds_toArray, List.set_cons_zero, List.set_cons_succ]
        with_reducible refine BigFrame.wpQuiet_want (by kernel_rfl) (fun K hK => ?_)
        apply Exists.intro
        refine ⟨fun w' hC => ?_, hK _ ?_⟩
        · unfold Oper.quietAt
          go_simp
          first | with_reducible rfl | done
        clear hK K
        try simp only [Act.put, List.setIfInBounds_toArray, List.set_cons_zero, List.set_cons_succ]
        with_reducible refine BigFrame.wpQuiet_want (by kernel_rfl) (fun K hK => ?_)
        apply Exists.intro
        refine ⟨fun w' hC => ?_, hK _ ?_⟩
        · have f0' := HQ0.out w' hC
          have f1' := HQ1.out w' hC
          unfold Oper.quietAt
          go_simp
          first | with_reducible rfl | done
        clear hK K
        try simp only [Act.put, List.setIfInBounds_toArray, List.set_cons_zero, List.set_cons_succ]
        with_reducible refine BigFrame.wpQuiet_want (by kernel_rfl) (fun K hK => ?_)
        apply Exists.intro
        refine ⟨fun w' hC => ?_, hK _ ?_⟩
        · unfold Oper.quietAt
          go_simp
          first | with_reducible rfl | done
        clear hK K
        try simp only [Act.put, List.setIfInBounds_toArray, List.set_cons_zero, List.set_cons_succ]
        with_reducible refine BigFrame.wpQuiet_want (by kernel_rfl) (fun K hK => ?_)
        apply Exists.intro
        refine ⟨fun w' hC => ?_, hK _ ?_⟩
        · have f0' := HQ0.out w' hC
          have f1' := HQ1.out w' hC
          unfold Oper.quietAt
          go_simp
          first | with_reducible rfl | done
        clear hK K
        try simp only [Act.put, List.setIfInBounds_toArray, List.set_cons_zero, List.set_cons_succ]
        with_reducible refine BigFrame.wpQuiet_want (by kernel_rfl) (fun K hK => ?_)
        apply Exists.intro
        refine ⟨fun w' hC => ?_, hK _ ?_⟩
        · unfold Oper.quietAt
          go_simp
          first | with_reducible rfl | done
        clear hK K
        try simp only [Act.put, List.setIfInBounds_toArray, List.set_cons_zero, List.set_cons_succ]
        with_reducible refine BigFrame.wpQuiet_want (by kernel_rfl) (fun K hK => ?_)
        apply Exists.intro
        refine ⟨fun w' hC => ?_, hK _ ?_⟩
        · unfold Oper.quietAt
          go_simp
          first | with_reducible rfl | done
        clear hK K
        try simp only [Act.put, List.setIfInBounds_toArray, List.set_cons_zero, List.set_cons_succ]
        with_reducible refine BigFrame.wpQuiet_want (by kernel_rfl) (fun K hK => ?_)
        apply Exists.intro
        refine ⟨fun w' hC => ?_, hK _ ?_⟩
        · unfold Oper.quietAt
          go_simp
          first | with_reducible rfl | done
        clear hK K
        try simp only [Act.put, List.setIfInBounds_toArray, List.set_cons_zero, List.set_cons_succ]
        refine wpQuiet_nil ?_
        intro w6 hb6
        have HB6 := hid (HBW.out.trans (hb6.mono HBW.out.size))
        have u3 := HQ0.out w6 hb6
        clear hb6
        go_wp2_with fail
        go_ret
        exact ⟨rfl, HB6.out⟩
    · have hq2 : (ns : Int) ≤ -1 - s := by omega
      obtain ⟨t, hst⟩ : ∃ t : Nat, -1 - s = (t : Int) := ⟨(-1 - s).toNat, by omega⟩
      have y1 : (ns : Int) ≤ (t : Int) := by omega
      obtain rfl : -1 = r := by rw [← HR.out, goX_none (by rw [HPX.out, if_neg (by omega), if_neg hq])]
      rw [hst] at hws
      clear hq hq2
      go_enter Tryd.func22, Tryd.ntmps22
      go_wp2_with fail
      go_ret
      exact ⟨rfl, HBW.out⟩
  · have y0 : decide (s < 0) = false := decide_eq_false hs
    obtain ⟨t, rfl⟩ : ∃ t : Nat, s = (t : Int) := ⟨s.toNat, by omega⟩
    by_cases hq : t < nt
    · have y1 : ¬ (nt : Int) ≤ (t : Int) := by omega
      have y2 : decide (nt ≤ t) = false := decide_eq_false (by omega)
      have HPL := hid (show placeX G (t : Int) = some t from by rw [HPX.out, if_pos (by omega), if_pos (by omega), Int.toNat_natCast])
      have hpl : t < nt + ns := by omega
      obtain ⟨v, hv⟩ : ∃ v, R[t]? = some v := ⟨_, List.getElem?_eq_getElem (by omega)⟩
      obtain rfl : v = r := by rw [← HR.out, goX_at HPL.out HRX.out hv]
      have hvv := hRv v (List.mem_of_getElem? hv)
      have hvl := (List.getElem?_eq_some_iff.1 hv).1
      obtain ⟨rb, roff, rfl, hrq2⟩ := hrq (by omega)
      have u3 := hrq2 (t) hvl
      dsimp only at u3
      rw [X14.getD_get hv] at u3
      have k1 : ¬ (R.length : Int) ≤ (t : Int) := by omega
      have k2 : decide ((R.length : Int) ≤ (t : Int)) = false := decide_eq_false k1
      have k3 : (t : Int) < (R.length : Int) := by omega
      have k4 : (0 : Int) ≤ (t : Int) := by omega
      have k6 : ((t : Int)).toNat = t := by omega
      have k5 : decide (R.length ≤ t) = false := decide_eq_false (by omega)
      have HQ0 : Hid (∀ w', Below W2.heap.size W2 w' → w'.cell? ⟨rb, roff + (t), none⟩ = some (.int .i64 v)) := hid fun w' hC => cell_below hC u3
      have HQ1 : Hid (∀ w', Below W2.heap.size W2 w' → w'.cell? ⟨W1.heap.size, 1, none⟩ = some (.slice (some ⟨nb, noff, none⟩) n nc)) := hid fun w' hC => cell_below hC d1
      have hrl60 : nt + ns ≤ 9223372036854775807 := by omega
      clear hrq hrq2 hRv hv hRl
      clear hq
      rcases hvv with rfl | ⟨v0, v1⟩
      · go_enter Tryd.func22, Tryd.ntmps22
        go_wp2_with fail
        refine wp_region_below (by kernel_rfl) (by kernel_rfl) ?_
        with_reducible refine BigFrame.wpQuiet_want (by kernel_rfl) (fun K hK => ?_)
        apply Exists.intro
        refine ⟨fun w' hC => ?_, hK _ ?_⟩
        · unfold Oper.quietAt
          go_simp
          first | with_reducible rfl | done
        clear hK K
        try simp only [Act.put, List.setIfInBounds_toArray, List.set_cons_zero, List.set_cons_succ]
        with_reducible refine BigFrame.wpQuiet_want (by kernel_rfl) (fun K hK => ?_)
        apply Exists.intro
        refine ⟨fun w' hC => ?_, hK _ ?_⟩
        · unfold Oper.quietAt
          go_simp
          first | with_reducible rfl | done
        clear hK K
        try simp only [Act.put, List.setIfInBounds_toArray, List.set_cons_zero, List.set_cons_succ]
        with_reducible refine BigFrame.wpQuiet_want (by kernel_rfl) (fun K hK => ?_)
        apply Exists.intro
        refine ⟨fun w' hC => ?_, hK _ ?_⟩
        · unfold Oper.quietAt
          go_simp
          first | with_reducible rfl | done
        clear hK K
        try simp only [Act.put, List.setIfInBounds_toArray, List.set_cons_zero, List.set_cons_succ]
        with_reducible refine BigFrame.wpQuiet_want (by kernel_rfl) (fun K hK => ?_)
        apply Exists.intro
        refine ⟨fun w' hC => ?_, hK _ ?_⟩
        · unfold Oper.quietAt
          go_simp
          first | with_reducible rfl | done
        clear hK K
        try simp only [Act.put, List.setIfInBounds_toArray, List.set_cons_zero, List.set_cons_succ]
        with_reducible refine BigFrame.wpQuiet_want (by kernel_rfl) (fun K hK => ?_)
        apply Exists.intro
        refine ⟨fun w' hC => ?_, hK _ ?_⟩
        · unfold Oper.quietAt
          go_simp
          first | with_reducible rfl | done
        clear hK K
        try simp only [Act.put, List.setIfInBounds_toArray, List.set_cons_zero, List.set_cons_succ]
        with_reducible refine BigFrame.wpQuiet_want (by kernel_rfl) (fun K hK => ?_)
        apply Exists.intro
        refine ⟨fun w' hC => ?_, hK _ ?_⟩
        · unfold Oper.quietAt
          go_simp
          first | with_reducible rfl | done
        clear hK K
        try simp only [Act.put, List.setIfInBounds_toArray, List.set_cons_zero, List.set_cons_succ]
        with_reducible refine BigFrame.wpQuiet_want (by kernel_rfl) (fun K hK => ?_)
        apply Exists.intro
        refine ⟨fun w' hC => ?_, hK _ ?_⟩
        · unfold Oper.quietAt
          go_simp
          first | with_reducible rfl | done
        clear hK K
        try simp only [Act.put, List.setIfInBounds_toArray, List.set_cons_zero, List.set_cons_succ]
        with_reducible refine BigFrame.wpQuiet_want (by kernel_rfl) (fun K hK => ?_)
        apply Exists.intro
        refine ⟨fun w' hC => ?_, hK _ ?_⟩
        · unfold Oper.quietAt
          go_simp
          first | with_reducible rfl | done
        clear hK K
        try simp only [Act.put, List.setIfInBounds_toArray, List.set_cons_zero, List.set_cons_succ]
        with_reducible refine BigFrame.wpQuiet_want (by kernel_rfl) (fun K hK => ?_)
        apply Exists.intro
        refine ⟨fun w' hC => ?_, hK _ ?_⟩
        · have f0' := HQ0.out w' hC
          have f1' := HQ1.out w' hC
          unfold Oper.quietAt
          go_simp
          first | with_reducible rfl | done
        clear hK K
        try simp only [Act.put, List.setIfInBounds_toArray, List.set_cons_zero, List.set_cons_succ]
        with_reducible refine BigFrame.wpQuiet_want (by kernel_rfl) (fun K hK => ?_)
        apply Exists.intro
        refine ⟨fun w' hC => ?_, hK _ ?_⟩
        · unfold Oper.quietAt
          go_simp
          first | with_reducible rfl | done
        clear hK K
        try simp only [Act.put, List.setIfInBounds_toArray, List.set_cons_zero, List.set_cons_succ]
        with_reducible refine BigFrame.wpQuiet_want (by kernel_rfl) (fun K hK => ?_)
        apply Exists.intro
        refine ⟨fun w' hC => ?_, hK _ ?_⟩
        · unfold Oper.quietAt
          go_simp
          first | with_reducible rfl | done
        clear hK K
        try simp only [Act.put, List.setIfInBounds_toArray, List.set_cons_zero, List.set_cons_succ]
        with_reducible refine BigFrame.wpQuiet_want (by kernel_rfl) (fun K hK => ?_)
        apply Exists.intro
        refine ⟨fun w' hC => ?_, hK _ ?_⟩
        · unfold Oper.quietAt
          go_simp
          first | with_reducible rfl | done
        clear hK K
        try simp only [Act.put, List.setIfInBounds_toArray, List.set_cons_zero, List.set_cons_succ]
        with_reducible refine BigFrame.wpQuiet_skip (by kernel_rfl) ?_
        try simp only [Act.put, List.setIfInBounds_toArray, List.set_cons_zero, List.set_cons_succ]
        with_reducible refine BigFrame.wpQuiet_skip (by kernel_rfl) ?_
        try simp only [Act.put, List.setIfInBounds_toArray, List.set_cons_zero, List.set_cons_succ]
        with_reducible refine BigFrame.wpQuiet_skip (by kernel_rfl) ?_
        try simp only [Act.put, List.setIfInBounds_toArray, List.set_cons_zero, List.set_cons_succ]
        with_reducible refine BigFrame.wpQuiet_skip (by kernel_rfl) ?_
        try simp only [Act.put, List.setIfInBounds_toArray, List.set_cons_zero, List.set_cons_succ]
        with_reducible refine BigFrame.wpQuiet_skip (by kernel_rfl) ?_
        try simp only [Act.put, List.setIfInBounds_toArray, List.set_cons_zero, List.set_cons_succ]
        with_reducible refine BigFrame.wpQuiet_skip (by kernel_rfl) ?_
        try simp only [Act.put, List.setIfInBounds_toArray, List.set_cons_zero, List.set_cons_succ]
        with_reducible refine BigFrame.wpQuiet_skip (by kernel_rfl) ?_
        try simp only [Act.put, List.setIfInBounds_toArray, List.set_cons_zero, List.set_cons_succ]
        with_reducible refine BigFrame.wpQuiet_skip (by kernel_rfl) ?_
        try simp only [Act.put, List.setIfInBounds_toArray, List.set_cons_zero, List.set_cons_succ]
        with_reducible refine BigFrame.wpQuiet_want (by kernel_rfl) (fun K hK => ?_)
        apply Exists.intro
        refine ⟨fun w' hC => ?_, hK _ ?_⟩
        · unfold Oper.quietAt
          go_simp
          first | with_reducible rfl | done
        clear hK K
        try simp only [Act.put, List.setIfInBounds_toArray, List.set_cons_zero, List.set_cons_succ]
        refine wpQuiet_nil ?_
        intro w6 hb6
        have HB6 := hid (HBW.out.trans (hb6.mono HBW.out.size))
        clear hb6
        go_wp2_with fail
        go_ret
        exact ⟨rfl, HB6.out⟩
      · obtain ⟨vn, rfl⟩ : ∃ vn : Nat, v = (vn : Int) := ⟨v.toNat, by omega⟩
        have x0 : decide ((vn : Int) < 0) = false := decide_eq_false (by omega)
        have x1 : decide (n ≤ vn) = false := decide_eq_false (by omega)
        have x2 : ¬ (n : Int) ≤ (vn : Int) := by omega
        go_enter Tryd.func22, Tryd.ntmps22
        go_wp2_with fail
        refine wp_region_below (by kernel_rfl) (by kernel_rfl) ?_
        with_reducible refine BigFrame.wpQuiet_want (by kernel_rfl) (fun K hK => ?_)
        apply Exists.intro
        refine ⟨fun w' hC => ?_, hK _ ?_⟩
        · unfold Oper.quietAt
          go_simp
          first | with_reducible rfl | done
        clear hK K
        try simp only [Act.put, List.setIfInBounds_toArray, List.set_cons_zero, List.set_cons_succ]
        with_reducible refine BigFrame.wpQuiet_want (by kernel_rfl) (fun K hK => ?_)
        apply Exists.intro
        refine ⟨fun w' hC => ?_, hK _ ?_⟩
        · unfold Oper.quietAt
          go_simp
          first | with_reducible rfl | done
        clear hK K
        try simp only [Act.put, List.setIfInBounds_toArray, List.set_cons_zero, List.set_cons_succ]
        with_reducible refine BigFrame.wpQuiet_want (by kernel_rfl) (fun K hK => ?_)
        apply Exists.intro
        refine ⟨fun w' hC => ?_, hK _ ?_⟩
        · unfold Oper.quietAt
          go_simp
          first | with_reducible rfl | done
        clear hK K
        try simp only [Act.put, List.setIfInBounds_toArray, List.set_cons_zero, List.set_cons_succ]
        with_reducible refine BigFrame.wpQuiet_want (by kernel_rfl) (fun K hK => ?_)
        apply Exists.intro
        refine ⟨fun w' hC => ?_, hK _ ?_⟩
        · unfold Oper.quietAt
          go_simp
          first | with_reducible rfl | done
        clear hK K
        try simp only [Act.put, List.setIfInBounds_toArray, List.set_cons_zero, List.set_cons_succ]
        with_reducible refine BigFrame.wpQuiet_want (by kernel_rfl) (fun K hK => ?_)
        apply Exists.intro
        refine ⟨fun w' hC => ?_, hK _ ?_⟩
        · unfold Oper.quietAt
          go_simp
          first | with_reducible rfl | done
        clear hK K
        try simp only [Act.put, List.setIfInBounds_toArray, List.set_cons_zero, List.set_cons_succ]
        with_reducible refine BigFrame.wpQuiet_want (by kernel_rfl) (fun K hK => ?_)
        apply Exists.intro
        refine ⟨fun w' hC => ?_, hK _ ?_⟩
        · unfold Oper.quietAt
          go_simp
          first | with_reducible rfl | done
        clear hK K
        try simp only [Act.put, List.setIfInBounds_toArray, List.set_cons_zero, List.set_cons_succ]
        with_reducible refine BigFrame.wpQuiet_want (by kernel_rfl) (fun K hK => ?_)
        apply Exists.intro
        refine ⟨fun w' hC => ?_, hK _ ?_⟩
        · unfold Oper.quietAt
          go_simp
          first | with_reducible rfl | done
        clear hK K
        try simp only [Act.put, List.setIfInBounds_toArray, List.set_cons_zero, List.set_cons_succ]
        with_reducible refine BigFrame.wpQuiet_want (by kernel_rfl) (fun K hK => ?_)
        apply Exists.intro
        refine ⟨fun w' hC => ?_, hK _ ?_⟩
        · unfold Oper.quietAt
          go_simp
          first | with_reducible rfl | done
        clear hK K
        try simp only [Act.put, List.setIfInBounds_toArray, List.set_cons_zero, List.set_cons_succ]
        with_reducible refine BigFrame.wpQuiet_want (by kernel_rfl) (fun K hK => ?_)
        apply Exists.intro
        refine ⟨fun w' hC => ?_, hK _ ?_⟩
        · have f0' := HQ0.out w' hC
          have f1' := HQ1.out w' hC
          unfold Oper.quietAt
          go_simp
          first | with_reducible rfl | done
        clear hK K
        try simp only [Act.put, List.setIfInBounds_toArray, List.set_cons_zero, List.set_cons_succ]
        with_reducible refine BigFrame.wpQuiet_want (by kernel_rfl) (fun K hK => ?_)
        apply Exists.intro
        refine ⟨fun w' hC => ?_, hK _ ?_⟩
        · unfold Oper.quietAt
          go_simp
          first | with_reducible rfl | done
        clear hK K
        try simp only [Act.put, List.setIfInBounds_toArray, List.set_cons_zero, List.set_cons_succ]
        with_reducible refine BigFrame.wpQuiet_want (by kernel_rfl) (fun K hK => ?_)
        apply Exists.intro
        refine ⟨fun w' hC => ?_, hK _ ?_⟩
        · unfold Oper.quietAt
          go_simp
          first | with_reducible rfl | done
        clear hK K
        try simp only [Act.put, List.setIfInBounds_toArray, List.set_cons_zero, List.set_cons_succ]
        with_reducible refine BigFrame.wpQuiet_want (by kernel_rfl) (fun K hK => ?_)
        apply Exists.intro
        refine ⟨fun w' hC => ?_, hK _ ?_⟩
        · unfold Oper.quietAt
          go_simp
          first | with_reducible rfl | done
        clear hK K
        try simp only [Act.put, List.setIfInBounds_toArray, List.set_cons_zero, List.set_cons_succ]
        with_reducible refine BigFrame.wpQuiet_want (by kernel_rfl) (fun K hK => ?_)
        apply Exists.intro
        refine ⟨fun w' hC => ?_, hK _ ?_⟩
        · unfold Oper.quietAt
          go_simp
          first | with_reducible rfl | done
        clear hK K
        try simp only [Act.put, List.setIfInBounds_toArray, List.set_cons_zero, List.set_cons_succ]
        with_reducible refine BigFrame.wpQuiet_want (by kernel_rfl) (fun K hK => ?_)
        apply Exists.intro
        refine ⟨fun w' hC => ?_, hK _ ?_⟩
        · unfold Oper.quietAt
          go_simp
          first | with_reducible rfl | done
        clear hK K
        try simp only [Act.put, List.setIfInBounds_toArray, List.set_cons_zero, List.set_cons_succ]
        with_reducible refine BigFrame.wpQuiet_want (by kernel_rfl) (fun K hK => ?_)
        apply Exists.intro
        refine ⟨fun w' hC => ?_, hK _ ?_⟩
        · unfold Oper.quietAt
          go_simp
          first | with_reducible rfl | done
        clear hK K
        try simp only [Act.put, List.setIfInBounds_toArray, List.set_cons_zero, List.set_cons_succ]
        with_reducible refine BigFrame.wpQuiet_want (by kernel_rfl) (fun K hK => ?_)
        apply Exists.intro
        refine ⟨fun w' hC => ?_, hK _ ?_⟩
        · have f0' := HQ0.out w' hC
          have f1' := HQ1.out w' hC
          unfold Oper.quietAt
          go_simp
          first | with_reducible rfl | done
        clear hK K
        try simp only [Act.put, List.setIfInBounds_toArray, List.set_cons_zero, List.set_cons_succ]
        with_reducible refine BigFrame.wpQuiet_want (by kernel_rfl) (fun K hK => ?_)
        apply Exists.intro
        refine ⟨fun w' hC => ?_, hK _ ?_⟩
        · unfold Oper.quietAt
          go_simp
          first | with_reducible rfl | done
        clear hK K
        try simp only [Act.put, List.setIfInBounds_toArray, List.set_cons_zero, List.set_cons_succ]
        with_reducible refine BigFrame.wpQuiet_want (by kernel_rfl) (fun K hK => ?_)
        apply Exists.intro
        refine ⟨fun w' hC => ?_, hK _ ?_⟩
        · have f0' := HQ0.out w' hC
          have f1' := HQ1.out w' hC
          unfold Oper.quietAt
          go_simp
          first | with_reducible rfl | done
        clear hK K
        try simp only [Act.put, List.setIfInBounds_toArray, List.set_cons_zero, List.set_cons_succ]
        with_reducible refine BigFrame.wpQuiet_want (by kernel_rfl) (fun K hK => ?_)
        apply Exists.intro
        refine ⟨fun w' hC => ?_, hK _ ?_⟩
        · unfold Oper.quietAt
          go_simp
          first | with_reducible rfl | done
        clear hK K
        try simp only [Act.put, List.setIfInBounds_toArray, List.set_cons_zero, List.set_cons_succ]
        with_reducible refine BigFrame.wpQuiet_want (by kernel_rfl) (fun K hK => ?_)
        apply Exists.intro
        refine ⟨fun w' hC => ?_, hK _ ?_⟩
        · unfold Oper.quietAt
          go_simp
          first | with_reducible rfl | done
        clear hK K
        try simp only [Act.put, List.setIfInBounds_toArray, List.set_cons_zero, List.set_cons_succ]
        with_reducible refine BigFrame.wpQuiet_want (by kernel_rfl) (fun K hK => ?_)
        apply Exists.intro
        refine ⟨fun w' hC => ?_, hK _ ?_⟩
        · unfold Oper.quietAt
          go_simp
          first | with_reducible rfl | done
        clear hK K
        try simp only [Act.put, List.setIfInBounds_toArray, List.set_cons_zero, List.set_cons_succ]
        refine wpQuiet_nil ?_
        intro w6 hb6
        have HB6 := hid (HBW.out.trans (hb6.mono HBW.out.size))
        have u3 := HQ0.out w6 hb6
        clear hb6
        go_wp2_with fail
        go_ret
        exact ⟨rfl, HB6.out⟩
    · have y1 : (nt : Int) ≤ (t : Int) := by omega
      obtain rfl : -1 = r := by rw [← HR.out, goX_none (by rw [HPX.out, if_pos (by omega), if_neg (by omega)])]
      clear hq
      go_enter Tryd.func22, Tryd.ntmps22
      go_wp2_with fail
      go_ret
      exact ⟨rfl, HBW.out⟩
end Go.Proofs.YtjpbhbfklkipkaaDoor
