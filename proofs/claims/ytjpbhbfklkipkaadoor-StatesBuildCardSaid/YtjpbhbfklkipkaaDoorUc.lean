/- The document's Go. -/
import Derived.Test.YtjpbhbfklkipkaaDoorSy
namespace Go.Proofs.YtjpbhbfklkipkaaDoor
open Go Go.RowKit Go.Lib
set_option linter.unusedVariables false
set_option linter.unusedSimpArgs false
set_option maxRecDepth 100000 in
set_option maxHeartbeats 8000000 in
theorem RGo_any {G : GD} {gv av : Value} {w : World} {ker : List (List X14.It)} {nx : List (List Int)} (h : Gram w gv G) (ha : AutAt w av ker nx) (hok : NxOk G nx) (at_ s : Int) (s0 : -9223372036854775808 ≤ s) (s1 : s ≤ 9223372036854775807) :
    Calls Tryd.prog 23 #[gv, av, .int .i64 at_, .int .i64 s] w fun e w' => e = .returned (.int .i64 (goX G nx at_ s)) ∧ Below w.heap.size w w' := by
  obtain ⟨tv, ov, sv, pv, tf, rv, h⟩ := h
  have hgv := h.eq
  subst hgv
  obtain ⟨to_, tc, rfl, htn, _⟩ := h.terms
  obtain ⟨kv, nv, rfl, hkv, hnv⟩ := ha
  obtain ⟨no, nc, rfl, hnn⟩ := hnv.len
  obtain ⟨W1, e1⟩ : ∃ W1, w.alloc (.cells #[.slice to_ G.terms.length tc, ov, sv, pv, .int .i64 G.start] 27) = W1 := ⟨_, rfl⟩
  have hb1 : Below w.heap.size w W1 := by rw [← e1]; exact (Below.refl _ _).alloc (Nat.le_refl _) _
  have n1 : W1.heap[w.heap.size]? = some (.cells #[.slice to_ G.terms.length tc, ov, sv, pv, .int .i64 G.start] 27 (0, 0)) := by rw [← e1]; exact new_block _ _
  obtain ⟨W2, e2⟩ : ∃ W2, W1.alloc (.cells #[kv, .slice no nx.length nc] 55) = W2 := ⟨_, rfl⟩
  have hb2 : Below W1.heap.size W1 W2 := by rw [← e2]; exact (Below.refl _ _).alloc (Nat.le_refl _) _
  have n2 : W2.heap[W1.heap.size]? = some (.cells #[kv, .slice no nx.length nc] 55 (0, 0)) := by rw [← e2]; exact new_block _ _
  have hbw := hb1.trans (hb2.mono hb1.size)
  have n1' := (hb2.block _ (Array.getElem?_eq_some_iff.1 n1).1).trans n1
  have c0 : W2.cell? ⟨w.heap.size, 0, none⟩ = some (.slice to_ G.terms.length tc) := Lib.cell_of_heap n1' 0
  have d1 : W2.cell? ⟨W1.heap.size, 1, none⟩ = some (.slice no nx.length nc) := Lib.cell_of_heap n2 1
  have HBW := hid hbw
  have HNV := hid (hnv.below (q := fun i u => IntsAt W2 u (nx.getD i [])) hbw fun i u hu => hu.mono hbw)
  have HOK := hid hok
  obtain ⟨r, hr⟩ : ∃ r, goX G nx at_ s = r := ⟨_, rfl⟩
  have HR := hid hr
  rw [hr]
  obtain ⟨nt, hnt⟩ : ∃ nt, G.terms.length = nt := ⟨_, rfl⟩
  obtain ⟨ns, hns⟩ : ∃ ns, G.sorts.length = ns := ⟨_, rfl⟩
  obtain ⟨n, hn⟩ : ∃ n, nx.length = n := ⟨_, rfl⟩
  have HN := hid hn
  have HLEN := hid (show ∀ R ∈ nx, R.length = nt + ns ∧ ∀ v ∈ R, v = -1 ∨ (0 ≤ v ∧ v < (n : Int)) from by rw [← hnt, ← hns, ← hn]; exact hok)
  have hPX : placeX G s = if 0 ≤ s then (if s < (nt : Int) then some s.toNat else none) else (if -1 - s < (ns : Int) then some (nt + (-1 - s).toNat) else none) := by unfold placeX; rw [hnt, hns]
  have HPX := hid hPX
  rw [hnt] at e1 htn ⊢
  rw [hn] at e2 d1 ⊢
  rw [hnt] at c0
  clear h hkv hnv hok hb1 hb2 n1 n2 n1' hbw hr hnt hns hn hPX
  by_cases hat : 0 ≤ at_ ∧ at_ < (n : Int)
  case neg =>
    obtain rfl : -1 = r := by rw [← HR.out, goX_off (by rw [HN.out]; exact hat)]
    by_cases hs : s < 0
    · have y0 : decide (s < 0) = true := decide_eq_true hs
      obtain ⟨t, hst⟩ : ∃ t : Nat, -1 - s = (t : Int) := ⟨(-1 - s).toNat, by omega⟩
      have hws : IntKind.i64.wrap (-1 - s) = (t : Int) := by rw [wrap_small (by omega) (by omega), hst]
      obtain ⟨kk, hkk⟩ : ∃ kk, IntKind.i64.wrap ((nt : Int) + (t : Int)) = kk := ⟨_, rfl⟩
      by_cases ha0 : at_ < 0
      · have z0 : decide (at_ < 0) = true := decide_eq_true ha0
        clear hat
        go_enter Tryd.func23, Tryd.ntmps23
        go_wp2_with fail
        go_ret
        exact ⟨rfl, HBW.out⟩
      · have z0 : decide (at_ < 0) = false := decide_eq_false ha0
        have z1 : (n : Int) ≤ at_ := by omega
        clear hat
        go_enter Tryd.func23, Tryd.ntmps23
        go_wp2_with fail
        go_ret
        exact ⟨rfl, HBW.out⟩
    · have y0 : decide (s < 0) = false := decide_eq_false hs
      by_cases ha0 : at_ < 0
      · have z0 : decide (at_ < 0) = true := decide_eq_true ha0
        clear hat
        go_enter Tryd.func23, Tryd.ntmps23
        go_wp2_with fail
        go_ret
        exact ⟨rfl, HBW.out⟩
      · have z0 : decide (at_ < 0) = false := decide_eq_false ha0
        have z1 : (n : Int) ≤ at_ := by omega
        clear hat
        go_enter Tryd.func23, Tryd.ntmps23
        go_wp2_with fail
        go_ret
        exact ⟨rfl, HBW.out⟩
  obtain ⟨i, rfl⟩ : ∃ i : Nat, at_ = (i : Int) := ⟨at_.toNat, by omega⟩
  have hin : i < n := by omega
  have z0 : decide ((i : Int) < 0) = false := decide_eq_false (by omega)
  have z1 : decide (n ≤ i) = false := decide_eq_false (by omega)
  have z2 : ¬ (n : Int) ≤ (i : Int) := by omega
  have i0 : (0 : Int) ≤ (i : Int) := by omega
  have i1 : (i : Int) < (n : Int) := by omega
  clear hat
  obtain ⟨R, hRx⟩ : ∃ R, nx[i]? = some R := ⟨_, List.getElem?_eq_getElem (by rw [HN.out]; exact hin)⟩
  have HRX := hid hRx
  obtain ⟨hRl, hRv⟩ := HLEN.out R (List.mem_of_getElem? hRx)
  have hnv2 := HNV.out
  obtain ⟨nb, noff, u, rfl, u1, u2⟩ := hnv2.at_ (k := i) (by rw [HN.out]; exact hin)
  rw [X14.getD_get hRx] at u2
  obtain ⟨⟨ro, rc, rfl, hrn, hrq⟩, _⟩ := u2
  obtain ⟨rl, hrl⟩ : ∃ rl, R.length = rl := ⟨_, rfl⟩
  have HRL := hid hrl
  rw [hrl] at u1 hrn hRl hrq
  clear hnv2 hRx hrl hRv
  by_cases hs : s < 0
  · have y0 : decide (s < 0) = true := decide_eq_true hs
    obtain ⟨t, hst⟩ : ∃ t : Nat, -1 - s = (t : Int) := ⟨(-1 - s).toNat, by omega⟩
    have hws : IntKind.i64.wrap (-1 - s) = (t : Int) := by rw [wrap_small (by omega) (by omega), hst]
    by_cases hq : t < ns
    · have HPL := hid (show placeX G s = some (nt + t) from by rw [HPX.out, if_neg (by omega), if_pos (by omega), hst, Int.toNat_natCast])
      obtain ⟨v, hv⟩ : ∃ v, R[nt + t]? = some v := ⟨_, List.getElem?_eq_getElem (by rw [HRL.out]; omega)⟩
      obtain rfl : v = r := by rw [← HR.out, goX_at HPL.out HRX.out hv]
      obtain ⟨rb, roff, rfl, hrq2⟩ := hrq (by omega)
      have u3 := hrq2 (nt + t) (by omega)
      dsimp only at u3
      rw [X14.getD_get hv] at u3
      have hww : IntKind.i64.wrap ((nt : Int) + (t : Int)) = (nt : Int) + (t : Int) := wrap_small (by omega) (by omega)
      have k0 : ¬ ((nt : Int) + (t : Int)) < 0 := by omega
      have k1 : ¬ (rl : Int) ≤ ((nt : Int) + (t : Int)) := by omega
      have k2 : decide ((rl : Int) ≤ ((nt : Int) + (t : Int))) = false := decide_eq_false k1
      have k3 : ((nt : Int) + (t : Int)) < (rl : Int) := by omega
      have k4 : (0 : Int) ≤ ((nt : Int) + (t : Int)) := by omega
      have k6 : (((nt : Int) + (t : Int))).toNat = nt + t := by omega
      have k5 : decide (rl ≤ nt + t) = false := decide_eq_false (by omega)
      have k7 : ¬ (nt : Int) ≤ s := by omega
      have k8 : decide ((nt : Int) ≤ s) = false := decide_eq_false k7
      have k9 : decide (((nt : Int) + (t : Int)) < 0) = false := decide_eq_false k0
      clear hrq hrq2 hv hq hst
      go_enter Tryd.func23, Tryd.ntmps23
      go_wp2_with fail
      go_ret
      exact ⟨rfl, HBW.out⟩
    · have HPL := hid (show placeX G s = none from by rw [HPX.out, if_neg (by omega), if_neg (by omega)])
      obtain rfl : -1 = r := by rw [← HR.out, goX_none HPL.out]
      obtain ⟨kk, hkk⟩ : ∃ kk, IntKind.i64.wrap ((nt : Int) + (t : Int)) = kk := ⟨_, rfl⟩
      have hkc : kk < 0 ∨ (¬ kk < 0 ∧ (rl : Int) ≤ kk) := by
        by_cases ho : (nt : Int) + (t : Int) ≤ 9223372036854775807
        · rw [wrap_small (by omega) ho] at hkk
          exact .inr ⟨by omega, by omega⟩
        · refine .inl ?_
          rw [← hkk]
          have hb : IntKind.i64.wrap ((nt : Int) + (t : Int)) = (nt : Int) + (t : Int) - 18446744073709551616 := by
            unfold IntKind.wrap
            simp [IntKind.signed, IntKind.bits]
            omega
          rw [hb]
          omega
      rcases hkc with hk | ⟨hk, hk2⟩
      · have k1 : decide (kk < 0) = true := decide_eq_true hk
        clear hq hst hrq
        go_enter Tryd.func23, Tryd.ntmps23
        go_wp2_with fail
        go_ret
        exact ⟨rfl, HBW.out⟩
      · have k1 : decide (kk < 0) = false := decide_eq_false hk
        have k2 : decide ((rl : Int) ≤ kk) = true := decide_eq_true hk2
        clear hq hst hrq
        go_enter Tryd.func23, Tryd.ntmps23
        go_wp2_with fail
        go_ret
        exact ⟨rfl, HBW.out⟩
  · obtain ⟨t, rfl⟩ : ∃ t : Nat, s = (t : Int) := ⟨s.toNat, by omega⟩
    have y0 : ¬ (t : Int) < 0 := hs
    have y1 : decide ((t : Int) < 0) = false := decide_eq_false hs
    by_cases hq : t < nt
    · have HPL := hid (show placeX G (t : Int) = some t from by rw [HPX.out, if_pos (by omega), if_pos (by omega), Int.toNat_natCast])
      obtain ⟨v, hv⟩ : ∃ v, R[t]? = some v := ⟨_, List.getElem?_eq_getElem (by rw [HRL.out]; omega)⟩
      obtain rfl : v = r := by rw [← HR.out, goX_at HPL.out HRX.out hv]
      obtain ⟨rb, roff, rfl, hrq2⟩ := hrq (by omega)
      have u3 := hrq2 t (by omega)
      dsimp only at u3
      rw [X14.getD_get hv] at u3
      have k1 : ¬ (rl : Int) ≤ (t : Int) := by omega
      have k2 : decide (rl ≤ t) = false := decide_eq_false (by omega)
      have k3 : (t : Int) < (rl : Int) := by omega
      have k4 : (0 : Int) ≤ (t : Int) := by omega
      have k7 : ¬ (nt : Int) ≤ (t : Int) := by omega
      have k8 : decide (nt ≤ t) = false := decide_eq_false (by omega)
      clear hrq hrq2 hv hq
      go_enter Tryd.func23, Tryd.ntmps23
      go_wp2_with fail
      go_ret
      exact ⟨rfl, HBW.out⟩
    · have HPL := hid (show placeX G (t : Int) = none from by rw [HPX.out, if_pos (by omega), if_neg (by omega)])
      obtain rfl : -1 = r := by rw [← HR.out, goX_none HPL.out]
      by_cases hq2 : rl ≤ t
      · have k1 : (rl : Int) ≤ (t : Int) := by omega
        have k2 : decide (rl ≤ t) = true := decide_eq_true (by omega)
        clear hq hrq
        go_enter Tryd.func23, Tryd.ntmps23
        go_wp2_with fail
        go_ret
        exact ⟨rfl, HBW.out⟩
      · have k1 : ¬ (rl : Int) ≤ (t : Int) := by omega
        have k2 : decide (rl ≤ t) = false := decide_eq_false (by omega)
        have k7 : (nt : Int) ≤ (t : Int) := by omega
        have k8 : decide (nt ≤ t) = true := decide_eq_true (by omega)
        clear hq hrq
        go_enter Tryd.func23, Tryd.ntmps23
        go_wp2_with fail
        go_ret
        exact ⟨rfl, HBW.out⟩
end Go.Proofs.YtjpbhbfklkipkaaDoor
