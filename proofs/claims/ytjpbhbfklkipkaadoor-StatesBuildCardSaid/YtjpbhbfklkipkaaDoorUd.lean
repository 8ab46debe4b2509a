/- The walk of StatesBuild. -/
import Derived.Test.YtjpbhbfklkipkaaDoorUb
import Derived.Test.YtjpbhbfklkipkaaDoorUc
import Derived.Test.YtjpbhbfklkipkaaDoorTf
namespace Go.Proofs.YtjpbhbfklkipkaaDoor
open Go Go.RowKit Go.Lib
open X14 (It iterB BuiltOk BuiltMany)
set_option linter.unusedVariables false
set_option linter.unusedSimpArgs false
/-- What comes of Build. -/
def BuildC (G : GD) (w' : World) (e : Ending) : Prop :=
  (validB G = false ∧ e = .returned (.tuple #[noAut, .int .i64 1])) ∨ (validB G = true ∧ ∃ n, (BuiltMany G n ∧ e = .returned (.tuple #[noAut, .int .i64 4])) ∨ (BuiltOk G n ∧ ∃ av, e = .returned (.tuple #[av, .int .i64 0]) ∧ AutAt w' av (iterB G n).ker (iterB G n).nx))
theorem build_form {G : GD} {w' : World} {e : Ending} (h : BuildC G w' e) : ∃ ko kn kc no nn nc er, e = .returned (.tuple #[.agg #[.slice ko kn kc, .slice no nn nc], .int .i64 er]) := by
  rcases h with ⟨_, rfl⟩ | ⟨_, n, ⟨_, rfl⟩ | ⟨h1, av, rfl, kv, nv, rfl, hk, hn⟩⟩
  · exact ⟨none, 0, 0, none, 0, 0, 1, rfl⟩
  · exact ⟨none, 0, 0, none, 0, 0, 4, rfl⟩
  · obtain ⟨ko, kc, rfl, _⟩ := hk.len
    obtain ⟨no, nc, rfl, _⟩ := hn.len
    exact ⟨_, _, _, _, _, _, 0, rfl⟩
theorem rows_nil (w : World) (p : Nat → Value → Prop) : RowsAt w (.slice none 0 0) 0 p := ⟨none, 0, rfl, Nat.zero_le _, fun h => absurd h (Nat.lt_irrefl _)⟩
theorem aut_nil (w : World) : AutAt w noAut [] [] := ⟨_, _, rfl, rows_nil _ _, rows_nil _ _⟩
theorem build_both {G : GD} {w1 w2 : World} {a b : Value} {r1 r2 : Int} (h1 : BuildC G w1 (.returned (.tuple #[a, .int .i64 r1]))) (h2 : BuildC G w2 (.returned (.tuple #[b, .int .i64 r2]))) :
    r1 = r2 ∧ ∃ KER NX, AutAt w1 a KER NX ∧ AutAt w2 b KER NX ∧ NxOk G NX ∧ KER.length = NX.length ∧ KER.length ≤ 2000 ∧ (∀ k ∈ KER, k.length ≤ 1573) ∧ ∀ R ∈ NX, R.length ≤ 120 := by
  have nil : ∀ {r : Int}, (Ending.returned (.tuple #[a, .int .i64 r1]) = .returned (.tuple #[noAut, .int .i64 r])) → (Ending.returned (.tuple #[b, .int .i64 r2]) = .returned (.tuple #[noAut, .int .i64 r])) → r1 = r2 ∧ ∃ KER NX, AutAt w1 a KER NX ∧ AutAt w2 b KER NX ∧ NxOk G NX ∧ KER.length = NX.length ∧ KER.length ≤ 2000 ∧ (∀ k ∈ KER, k.length ≤ 1573) ∧ ∀ R ∈ NX, R.length ≤ 120 := fun e1 e2 => by
    simp only [Ending.returned.injEq, Value.tuple.injEq, Array.mk.injEq, List.cons.injEq, Value.int.injEq, and_true, true_and] at e1 e2
    obtain ⟨rfl, rfl⟩ := e1
    obtain ⟨rfl, rfl⟩ := e2
    exact ⟨rfl, [], [], aut_nil _, aut_nil _, NxOk.nil G, rfl, Nat.zero_le _, fun k hk => by simp at hk, fun k hk => by simp at hk⟩
  rcases h1 with ⟨v1, e1⟩ | ⟨v1, n, ⟨m1, e1⟩ | ⟨k1, av, e1, a1⟩⟩
  · rcases h2 with ⟨v2, e2⟩ | ⟨v2, _⟩
    · exact nil e1 e2
    · rw [v1] at v2; cases v2
  · rcases h2 with ⟨v2, e2⟩ | ⟨v2, m, ⟨m2, e2⟩ | ⟨k2, bv, e2, a2⟩⟩
    · rw [v1] at v2; cases v2
    · exact nil e1 e2
    · exact absurd m1 fun h => X14.Built.not k2 h
  · rcases h2 with ⟨v2, e2⟩ | ⟨v2, m, ⟨m2, e2⟩ | ⟨k2, bv, e2, a2⟩⟩
    · rw [v1] at v2; cases v2
    · exact absurd m2 fun h => X14.Built.not k1 h
    · obtain rfl := X14.Built.one k1 k2
      simp only [Ending.returned.injEq, Value.tuple.injEq, Array.mk.injEq, List.cons.injEq, Value.int.injEq, and_true, true_and] at e1 e2
      obtain ⟨rfl, rfl⟩ := e1
      obtain ⟨rfl, rfl⟩ := e2
      have hi := k1.inv
      have hl : (iterB G n).nx.length = n := (X14.iterB_at G n).2
      refine ⟨rfl, _, _, a1, a2, NxOk.built k1, by rw [hi.2.2, hl], by rw [hi.2.2]; have := k1.1.le; have := hi.2.2; omega, X14.iter_len v1 n, fun R hR => ?_⟩
      obtain ⟨i, hi2⟩ := List.mem_iff_getElem?.1 hR
      have h3 := hi.1.rl i R hi2
      rw [X14.symsX_len] at h3
      have h4 := valid_parts v1
      omega
set_option maxRecDepth 100000 in
set_option maxHeartbeats 32000000 in
theorem build_walk {G : GD} {gv : Value} {w : World} {Bt : Nat} (h : Gram w gv G) (a s : Int) (s0 : -9223372036854775808 ≤ s) (s1 : s ≤ 9223372036854775807) (ht : Tab Bt w) (hBt : Bt ≤ w.heap.size) :
    Calls Tryd.prog 4 #[gv, .int .i64 a, .int .i64 s] w fun e w' => e = .returned (.bool true) ∧ Below w.heap.size w w' := by
  have HGr := hid h
  have HT := hid ht
  have HSR := hid (And.intro s0 s1)
  obtain ⟨tv, ov, sv, pv, tf, rv, h⟩ := h
  have hgv := h.eq
  subst hgv
  obtain ⟨to_, tc, rfl, htn, _⟩ := h.terms
  obtain ⟨nt, hnt⟩ : ∃ nt, G.terms.length = nt := ⟨_, rfl⟩
  rw [hnt] at HGr ⊢
  obtain ⟨W1, e1⟩ : ∃ W1, w.alloc (.cells #[.slice to_ nt tc, ov, sv, pv, .int .i64 G.start] 27) = W1 := ⟨_, rfl⟩
  have hb1 : Below w.heap.size w W1 := by rw [← e1]; exact (Below.refl _ _).alloc (Nat.le_refl _) _
  have n1 : W1.heap[w.heap.size]? = some (.cells #[.slice to_ nt tc, ov, sv, pv, .int .i64 G.start] 27 (0, 0)) := by rw [← e1]; exact new_block _ _
  have HB1 := hid hb1
  have HN1 := hid n1
  have KW := hid (works_any W1 (ht.on (hb1.mono hBt)) (Nat.le_trans hBt hb1.size))
  clear h hb1 n1 ht hnt htn s0 s1
  go_enter Tryd.func4, Tryd.ntmps4
  go_wp2_with fail
  refine KW.out.mono ?_
  rintro e w2 ⟨rfl, hb2⟩
  have HB2 := hid (HB1.out.trans (hb2.mono HB1.out.size))
  have HN2 := hid ((hb2.block _ (Array.getElem?_eq_some_iff.1 HN1.out).1).trans HN1.out)
  have c0 : w2.cell? ⟨w.heap.size, 0, none⟩ = some (.slice to_ nt tc) := Lib.cell_of_heap HN2.out 0
  have c1 : w2.cell? ⟨w.heap.size, 1, none⟩ = some (ov) := Lib.cell_of_heap HN2.out 1
  have c2 : w2.cell? ⟨w.heap.size, 2, none⟩ = some (sv) := Lib.cell_of_heap HN2.out 2
  have c3 : w2.cell? ⟨w.heap.size, 3, none⟩ = some (pv) := Lib.cell_of_heap HN2.out 3
  have c4 : w2.cell? ⟨w.heap.size, 4, none⟩ = some (.int .i64 G.start) := Lib.cell_of_heap HN2.out 4
  have KF := hid (Little_any (HGr.out.below HB2.out))
  clear hb2 KW e1
  go_wp2_with fail
  refine KF.out.mono ?_
  rintro e w3 ⟨fw, rfl, hb3⟩
  have HB3 := hid (HB2.out.trans (hb3.mono HB2.out.size))
  have HN3 := hid ((hb3.block _ (Array.getElem?_eq_some_iff.1 HN2.out).1).trans HN2.out)
  clear hb3 KF c0 c1 c2 c3 c4
  cases fw
  · go_wp2_with fail
    go_ret
    exact ⟨rfl, HB3.out⟩
  have c0 : w3.cell? ⟨w.heap.size, 0, none⟩ = some (.slice to_ nt tc) := Lib.cell_of_heap HN3.out 0
  have c1 : w3.cell? ⟨w.heap.size, 1, none⟩ = some (ov) := Lib.cell_of_heap HN3.out 1
  have c2 : w3.cell? ⟨w.heap.size, 2, none⟩ = some (sv) := Lib.cell_of_heap HN3.out 2
  have c3 : w3.cell? ⟨w.heap.size, 3, none⟩ = some (pv) := Lib.cell_of_heap HN3.out 3
  have c4 : w3.cell? ⟨w.heap.size, 4, none⟩ = some (.int .i64 G.start) := Lib.cell_of_heap HN3.out 4
  have KB := hid (Build_any (HGr.out.below HB3.out) (HT.out.on (HB3.out.mono hBt)) (Nat.le_trans hBt HB3.out.size))
  go_wp2_with fail
  refine KB.out.mono ?_
  rintro e w4 ⟨hb4, hcase⟩
  have HB4 := hid (HB3.out.trans (hb4.mono HB3.out.size))
  have HN4 := hid ((hb4.block _ (Array.getElem?_eq_some_iff.1 HN3.out).1).trans HN3.out)
  clear hb4 KB c0 c1 c2 c3 c4
  obtain ⟨ko, kn, kc, no_, nn, nc, er, rfl⟩ := build_form (G := G) (w' := w4) hcase
  have HC1 := hid (show BuildC G w4 _ from hcase)
  clear hcase
  obtain ⟨wA, eA⟩ : ∃ wA, w4.alloc (.cells #[.slice ko kn kc, .slice no_ nn nc] 49) = wA := ⟨_, rfl⟩
  have hbA : Below w4.heap.size w4 wA := by rw [← eA]; exact (Below.refl _ _).alloc (Nat.le_refl _) _
  have nA : wA.heap[w4.heap.size]? = some (.cells #[.slice ko kn kc, .slice no_ nn nc] 49 (0, 0)) := by rw [← eA]; exact new_block _ _
  have HAA := hid nA
  have HbA := hid hbA
  have HBA := hid (HB4.out.trans (hbA.mono HB4.out.size))
  have HNA := hid ((hbA.block _ (Array.getElem?_eq_some_iff.1 HN4.out).1).trans HN4.out)
  have hlA : w4.heap.size < wA.heap.size := (Array.getElem?_eq_some_iff.1 nA).1
  have c0 : wA.cell? ⟨w.heap.size, 0, none⟩ = some (.slice to_ nt tc) := Lib.cell_of_heap HNA.out 0
  have c1 : wA.cell? ⟨w.heap.size, 1, none⟩ = some (ov) := Lib.cell_of_heap HNA.out 1
  have c2 : wA.cell? ⟨w.heap.size, 2, none⟩ = some (sv) := Lib.cell_of_heap HNA.out 2
  have c3 : wA.cell? ⟨w.heap.size, 3, none⟩ = some (pv) := Lib.cell_of_heap HNA.out 3
  have c4 : wA.cell? ⟨w.heap.size, 4, none⟩ = some (.int .i64 G.start) := Lib.cell_of_heap HNA.out 4
  have KB := hid (RBuild_any (HGr.out.below HBA.out))
  clear nA hbA
  go_wp2_with fail
  refine KB.out.mono ?_
  rintro e w5 ⟨hb5, hcase⟩
  have HB5 := hid (HBA.out.trans (hb5.mono HBA.out.size))
  have HA5 := hid ((hb5.block _ hlA).trans HAA.out)
  have HN5 := hid ((hb5.block _ (Array.getElem?_eq_some_iff.1 HNA.out).1).trans HNA.out)
  have Hb5 := hid (HbA.out.trans (hb5.mono HbA.out.size))
  have hl5 := hb5.size
  clear hb5 KB c0 c1 c2 c3 c4 eA
  obtain ⟨lo, ln, lc, mo, mn, mc, es, rfl⟩ := build_form (G := G) (w' := w5) hcase
  obtain ⟨rfl, KER, NX, ha, hb, hnx, hkn, hk2, hkl, hrl⟩ := build_both HC1.out (show BuildC G w5 _ from hcase)
  clear hcase HC1
  obtain ⟨kv, nv, ekv, hka, hna⟩ := ha
  cases ekv
  obtain ⟨_, _, elk, _⟩ := hka.len
  cases elk
  obtain ⟨_, _, elk, _⟩ := hna.len
  cases elk
  obtain ⟨kv, nv, ekv, hkb, hnb⟩ := hb
  cases ekv
  obtain ⟨_, _, elk, _⟩ := hkb.len
  cases elk
  obtain ⟨_, _, elk, _⟩ := hnb.len
  cases elk
  obtain ⟨n, hn⟩ : ∃ n, KER.length = n := ⟨_, rfl⟩
  have hn2 : NX.length = n := by omega
  have HKN := hid hn
  have HNN := hid hn2
  have HOKN := hid hnx
  have HKL := hid hkl
  have HRL := hid hrl
  rw [hn] at hka hkb hk2 HAA HA5 ⊢
  rw [hn2] at hna hnb HAA HA5 ⊢
  obtain ⟨wB, eB⟩ : ∃ wB, w5.alloc (.cells #[.slice lo n lc, .slice mo n mc] 55) = wB := ⟨_, rfl⟩
  have hbB : Below w5.heap.size w5 wB := by rw [← eB]; exact (Below.refl _ _).alloc (Nat.le_refl _) _
  have HBB := hid (show wB.heap[w5.heap.size]? = some (.cells #[.slice lo n lc, .slice mo n mc] 55 (0, 0)) from by rw [← eB]; exact new_block _ _)
  have HB6 := hid (HB5.out.trans (hbB.mono HB5.out.size))
  have HAB := hid ((hbB.block _ (by omega)).trans HA5.out)
  have HNB := hid ((hbB.block _ (Array.getElem?_eq_some_iff.1 HN5.out).1).trans HN5.out)
  have hb4B := Hb5.out.trans (hbB.mono Hb5.out.size)
  have HKA := hid (hka.below (q := fun i u => ItemsAt wB u (KER.getD i [])) hb4B fun i u hu => hu.below hb4B)
  have HNAX := hid (hna.below (q := fun i u => IntsAt wB u (NX.getD i [])) hb4B fun i u hu => hu.mono hb4B)
  have HKB := hid (hkb.below (q := fun i u => ItemsAt wB u (KER.getD i [])) hbB fun i u hu => hu.below hbB)
  have HNBX := hid (hnb.below (q := fun i u => IntsAt wB u (NX.getD i [])) hbB fun i u hu => hu.mono hbB)
  have a0 : wB.cell? ⟨w4.heap.size, 0, none⟩ = some (.slice ko n kc) := Lib.cell_of_heap HAB.out 0
  have a1 : wB.cell? ⟨w4.heap.size, 1, none⟩ = some (.slice no_ n nc) := Lib.cell_of_heap HAB.out 1
  have b0 : wB.cell? ⟨w5.heap.size, 0, none⟩ = some (.slice lo n lc) := Lib.cell_of_heap HBB.out 0
  have b1 : wB.cell? ⟨w5.heap.size, 1, none⟩ = some (.slice mo n mc) := Lib.cell_of_heap HBB.out 1
  have HAV := hid (show AutAt wB (.agg #[.slice ko n kc, .slice no_ n nc]) KER NX from ⟨_, _, rfl, by rw [hn]; exact HKA.out, by rw [hn2]; exact HNAX.out⟩)
  have HBV := hid (show AutAt wB (.agg #[.slice lo n lc, .slice mo n mc]) KER NX from ⟨_, _, rfl, by rw [hn]; exact HKB.out, by rw [hn2]; exact HNBX.out⟩)
  clear hka hna hkb hnb hn hn2 hbB hb4B hkn hkl hrl hnx
  go_wp2_with fail
  clear a0 a1 b0 b1 eB
  go_loopw [13, 14] (fun t13 t14 wz => ∃ i : Nat, i ≤ n ∧ t13 = .int .i64 (i : Int) ∧ Hid (Below wB.heap.size wB wz)) (fun t13 _ _ => n - (RowKit.intOf t13).toNat)
  case atStart => exact ⟨0, Nat.zero_le _, rfl, hid (Below.refl _ _)⟩
  case round =>
    obtain ⟨i, hin, rfl, HZ⟩ := hrel
    have a0 : wr.cell? ⟨w4.heap.size, 0, none⟩ = some (.slice ko n kc) := Lib.cell_of_heap ((HZ.out.block _ (Array.getElem?_eq_some_iff.1 HAB.out).1).trans HAB.out) 0
    by_cases hlt : i < n
    · have i1 : (i : Int) < (n : Int) := by omega
      have i0 : (0 : Int) ≤ (i : Int) := by omega
      obtain ⟨kb, kf, u, rfl, u1, u2⟩ := HKA.out.at_ (k := i) hlt
      obtain ⟨lb, lf, v, rfl, v1, v2⟩ := HKB.out.at_ (k := i) hlt
      obtain ⟨nb, nf, p, rfl, p1, p2⟩ := HNAX.out.at_ (k := i) hlt
      obtain ⟨mb, mf, q, rfl, q1, q2⟩ := HNBX.out.at_ (k := i) hlt
      obtain ⟨X, hX⟩ : ∃ X, KER[i]? = some X := ⟨_, List.getElem?_eq_getElem (by rw [HKN.out]; exact hlt)⟩
      obtain ⟨R, hR⟩ : ∃ R, NX[i]? = some R := ⟨_, List.getElem?_eq_getElem (by rw [HNN.out]; exact hlt)⟩
      rw [X14.getD_get hX] at u2 v2
      rw [X14.getD_get hR] at p2 q2
      have hXl := HKL.out X (List.mem_of_getElem? hX)
      have hRl := HRL.out R (List.mem_of_getElem? hR)
      obtain ⟨uo, uc, hul, _⟩ := u2.len
      subst hul
      obtain ⟨vo, vc, hul, _⟩ := v2.len
      subst hul
      have HU2 := hid u2
      have HV2 := hid v2
      obtain ⟨⟨po, pc, rfl, _, hpq⟩, _⟩ := p2
      obtain ⟨⟨qo, qc, rfl, _, hqq⟩, _⟩ := q2
      have HPQ := hid hpq
      have HQQ := hid hqq
      have HP1 := hid p1
      have HQ1 := hid q1
      have HU1 := hid u1
      have HV1 := hid v1
      clear u1 u2 v1 v2 p1 q1 hpq hqq hX hR
      obtain ⟨xl, hxl⟩ : ∃ xl, X.length = xl := ⟨_, rfl⟩
      have HXL := hid hxl
      rw [hxl] at HU1 HV1 HU2 HV2 hXl
      obtain ⟨rl, hrl⟩ : ∃ rl, R.length = rl := ⟨_, rfl⟩
      have HRL2 := hid hrl
      rw [hrl] at HP1 HQ1 HPQ HQQ hRl
      clear hxl hrl
      obtain ⟨we, ewe⟩ : ∃ we, wr.drew = we := ⟨_, rfl⟩
      have hbe : Below wr.heap.size wr we := by rw [← ewe]; exact (Below.refl _ _).drew
      have HBe := hid (HZ.out.trans (hbe.mono HZ.out.size))
      have HS := hid (show ∀ w', Below we.heap.size we w' → w'.cell? ⟨w4.heap.size, 0, none⟩ = some (.slice (some ⟨kb, kf, none⟩) n kc) ∧ w'.cell? ⟨w4.heap.size, 1, none⟩ = some (.slice (some ⟨nb, nf, none⟩) n nc) ∧ w'.cell? ⟨w5.heap.size, 0, none⟩ = some (.slice (some ⟨lb, lf, none⟩) n lc) ∧ w'.cell? ⟨w5.heap.size, 1, none⟩ = some (.slice (some ⟨mb, mf, none⟩) n mc) ∧ w'.cell? ⟨kb, kf + i, none⟩ = some (.slice uo xl uc) ∧ w'.cell? ⟨lb, lf + i, none⟩ = some (.slice vo xl vc) ∧ w'.cell? ⟨nb, nf + i, none⟩ = some (.slice po rl pc) ∧ w'.cell? ⟨mb, mf + i, none⟩ = some (.slice qo rl qc) from fun w' hC => by
        have hh := HBe.out.trans (hC.mono HBe.out.size)
        have nA := (hh.block _ (Array.getElem?_eq_some_iff.1 HAB.out).1).trans HAB.out
        have nB := (hh.block _ (Array.getElem?_eq_some_iff.1 HBB.out).1).trans HBB.out
        exact ⟨Lib.cell_of_heap nA 0, Lib.cell_of_heap nA 1, Lib.cell_of_heap nB 0, Lib.cell_of_heap nB 1, cell_below hh HU1.out, cell_below hh HV1.out, cell_below hh HP1.out, cell_below hh HQ1.out⟩)
      have HH0 := HS.out we (Below.refl _ _)
      have HUe := hid (HU2.out.below HBe.out)
      clear hbe
      go_wp2_with fail
      refine region_T 27 (fun w' => w'.cell? ⟨w4.heap.size, 0, none⟩ = some (.slice (some ⟨kb, kf, none⟩) n kc) ∧ w'.cell? ⟨w4.heap.size, 1, none⟩ = some (.slice (some ⟨nb, nf, none⟩) n nc) ∧ w'.cell? ⟨w5.heap.size, 0, none⟩ = some (.slice (some ⟨lb, lf, none⟩) n lc) ∧ w'.cell? ⟨w5.heap.size, 1, none⟩ = some (.slice (some ⟨mb, mf, none⟩) n mc) ∧ w'.cell? ⟨kb, kf + i, none⟩ = some (.slice uo xl uc) ∧ w'.cell? ⟨lb, lf + i, none⟩ = some (.slice vo xl vc) ∧ w'.cell? ⟨nb, nf + i, none⟩ = some (.slice po rl pc) ∧ w'.cell? ⟨mb, mf + i, none⟩ = some (.slice qo rl qc)) (by kernel_rfl) (by rw [ewe]; exact HH0) (fun inv hHeld => ?_)
      rw [ewe]
      clear hHeld ewe
      refine anyT_take (i := 0) (oi := { dst := some 61, op := Go.Op.fieldAddr 49 (Go.Operand.tmp 9) 0, type := 0, pos := "law.go:81", after := #[], guard := none }) (v := ?_) rfl (by kernel_rfl) (by kernel_rfl) (by kernel_rfl) (by decide) (by decide) (by kernel_rfl) (by kernel_rfl) (fun _ _ _ h => h) (Or.inl ⟨by rfl, ?_⟩) HH0 inv (fun inv => ?_)
      rotate_left
      · intro w hSw
        try dsimp only at hSw
        go_simp
        try with_reducible rfl
      simp only [Act.put, List.setIfInBounds_toArray, List.set_cons_zero, List.set_cons_succ]
      refine anyT_take (i := 1) (oi := { dst := some 62, op := Go.Op.load 46 (Go.Operand.tmp 61), type := 46, pos := "law.go:81", after := #[{ on := 0, ground := Go.Ground.data }], guard := none }) (v := ?_) rfl (by kernel_rfl) (by kernel_rfl) (by kernel_rfl) (by decide) (by decide) (by kernel_rfl) (by kernel_rfl) (fun _ _ _ h => h) (Or.inl ⟨by rfl, ?_⟩) HH0 inv (fun inv => ?_)
      rotate_left
      · intro w hSw
        try dsimp only at hSw
        go_simp
        try with_reducible rfl
      simp only [Act.put, List.setIfInBounds_toArray, List.set_cons_zero, List.set_cons_succ]
      refine anyT_take (i := 2) (oi := { dst := some 63, op := Go.Op.move (Go.Operand.tmp 13), type := 3, pos := "law.go:81", after := #[], guard := none }) (v := ?_) rfl (by kernel_rfl) (by kernel_rfl) (by kernel_rfl) (by decide) (by decide) (by kernel_rfl) (by kernel_rfl) (fun _ _ _ h => h) (Or.inl ⟨by rfl, ?_⟩) HH0 inv (fun inv => ?_)
      rotate_left
      · intro w hSw
        try dsimp only at hSw
        go_simp
        try with_reducible rfl
      simp only [Act.put, List.setIfInBounds_toArray, List.set_cons_zero, List.set_cons_succ]
      refine anyT_take (i := 3) (oi := { dst := some 64, op := Go.Op.indexAddr 46 (Go.Operand.tmp 62) (Go.Operand.tmp 63), type := 0, pos := "law.go:81", after := #[{ on := 1, ground := Go.Ground.data }, { on := 2, ground := Go.Ground.data }], guard := none }) (v := ?_) rfl (by kernel_rfl) (by kernel_rfl) (by kernel_rfl) (by decide) (by decide) (by kernel_rfl) (by kernel_rfl) (fun _ _ _ h => h) (Or.inl ⟨by rfl, ?_⟩) HH0 inv (fun inv => ?_)
      rotate_left
      · intro w hSw
        try dsimp only at hSw
        go_simp
        try with_reducible rfl
      simp only [Act.put, List.setIfInBounds_toArray, List.set_cons_zero, List.set_cons_succ]
      refine anyT_take (i := 4) (oi := { dst := some 65, op := Go.Op.load 28 (Go.Operand.tmp 64), type := 28, pos := "law.go:81", after := #[{ on := 3, ground := Go.Ground.data }], guard := none }) (v := ?_) rfl (by kernel_rfl) (by kernel_rfl) (by kernel_rfl) (by decide) (by decide) (by kernel_rfl) (by kernel_rfl) (fun _ _ _ h => h) (Or.inl ⟨by rfl, ?_⟩) HH0 inv (fun inv => ?_)
      rotate_left
      · intro w hSw
        try dsimp only at hSw
        go_simp
        try with_reducible rfl
      simp only [Act.put, List.setIfInBounds_toArray, List.set_cons_zero, List.set_cons_succ]
      refine anyT_take (i := 6) (oi := { dst := some 67, op := Go.Op.fieldAddr 55 (Go.Operand.tmp 11) 0, type := 0, pos := "law.go:81", after := #[], guard := none }) (v := ?_) rfl (by kernel_rfl) (by kernel_rfl) (by kernel_rfl) (by decide) (by decide) (by kernel_rfl) (by kernel_rfl) (fun _ _ _ h => h) (Or.inl ⟨by rfl, ?_⟩) HH0 inv (fun inv => ?_)
      rotate_left
      · intro w hSw
        try dsimp only at hSw
        go_simp
        try with_reducible rfl
      simp only [Act.put, List.setIfInBounds_toArray, List.set_cons_zero, List.set_cons_succ]
      refine anyT_take (i := 7) (oi := { dst := some 68, op := Go.Op.load 53 (Go.Operand.tmp 67), type := 53, pos := "law.go:81", after := #[{ on := 6, ground := Go.Ground.data }], guard := none }) (v := ?_) rfl (by kernel_rfl) (by kernel_rfl) (by kernel_rfl) (by decide) (by decide) (by kernel_rfl) (by kernel_rfl) (fun _ _ _ h => h) (Or.inl ⟨by rfl, ?_⟩) HH0 inv (fun inv => ?_)
      rotate_left
      · intro w hSw
        try dsimp only at hSw
        go_simp
        try with_reducible rfl
      simp only [Act.put, List.setIfInBounds_toArray, List.set_cons_zero, List.set_cons_succ]
      refine anyT_take (i := 8) (oi := { dst := some 69, op := Go.Op.move (Go.Operand.tmp 13), type := 3, pos := "law.go:81", after := #[], guard := none }) (v := ?_) rfl (by kernel_rfl) (by kernel_rfl) (by kernel_rfl) (by decide) (by decide) (by kernel_rfl) (by kernel_rfl) (fun _ _ _ h => h) (Or.inl ⟨by rfl, ?_⟩) HH0 inv (fun inv => ?_)
      rotate_left
      · intro w hSw
        try dsimp only at hSw
        go_simp
        try with_reducible rfl
      simp only [Act.put, List.setIfInBounds_toArray, List.set_cons_zero, List.set_cons_succ]
      refine anyT_take (i := 9) (oi := { dst := some 70, op := Go.Op.indexAddr 53 (Go.Operand.tmp 68) (Go.Operand.tmp 69), type := 0, pos := "law.go:81", after := #[{ on := 7, ground := Go.Ground.data }, { on := 8, ground := Go.Ground.data }], guard := none }) (v := ?_) rfl (by kernel_rfl) (by kernel_rfl) (by kernel_rfl) (by decide) (by decide) (by kernel_rfl) (by kernel_rfl) (fun _ _ _ h => h) (Or.inl ⟨by rfl, ?_⟩) HH0 inv (fun inv => ?_)
      rotate_left
      · intro w hSw
        try dsimp only at hSw
        go_simp
        try with_reducible rfl
      simp only [Act.put, List.setIfInBounds_toArray, List.set_cons_zero, List.set_cons_succ]
      refine anyT_take (i := 10) (oi := { dst := some 71, op := Go.Op.load 32 (Go.Operand.tmp 70), type := 32, pos := "law.go:81", after := #[{ on := 9, ground := Go.Ground.data }], guard := none }) (v := ?_) rfl (by kernel_rfl) (by kernel_rfl) (by kernel_rfl) (by decide) (by decide) (by kernel_rfl) (by kernel_rfl) (fun _ _ _ h => h) (Or.inl ⟨by rfl, ?_⟩) HH0 inv (fun inv => ?_)
      rotate_left
      · intro w hSw
        try dsimp only at hSw
        go_simp
        try with_reducible rfl
      simp only [Act.put, List.setIfInBounds_toArray, List.set_cons_zero, List.set_cons_succ]
      refine anyT_next (i := 5) (o := { dst := some 66, op := Go.Op.call { callee := Go.Callee.value (Go.Operand.func 11), args := #[Go.Operand.tmp 65], argTypes := #[28] }, type := 32, pos := "law.go:81", after := #[{ on := 4, ground := Go.Ground.data }], guard := none }) (by kernel_rfl) rfl (by decide) inv (fun inv K' hK => ?_)
      go_simp
      refine (LRow_any (show ItemsAt we _ X from HUe.out) (by rw [HXL.out]; omega)).mono ?_
      rintro e wf ⟨pv1, rfl, hpv1, hbf⟩
      have HBf := hid hbf
      have HPV := hid (own_items hpv1 (by rw [HXL.out]; omega))
      obtain ⟨po1, pc1, rfl⟩ := own_shape hpv1
      have HH1 := HS.out wf HBf.out
      refine hK.out _ _ HH1 ?_
      clear hK K' HH0 hpv1 hbf
      try simp only [Act.put, List.setIfInBounds_toArray, List.set_cons_zero, List.set_cons_succ]
      refine anyT_next (i := 11) (o := { dst := some 72, op := Go.Op.call { callee := Go.Callee.value (Go.Operand.func 14), args := #[Go.Operand.tmp 66, Go.Operand.tmp 71], argTypes := #[32, 32] }, type := 4, pos := "law.go:81", after := #[{ on := 5, ground := Go.Ground.data }, { on := 10, ground := Go.Ground.data }, { on := 5, ground := Go.Ground.chain }], guard := none }) (by kernel_rfl) rfl (by decide) inv (fun inv K' hK => ?_)
      go_simp
      refine (RRow_any HPV.out (show ItemsAt wf _ X from HV2.out.below (HBe.out.trans (HBf.out.mono HBe.out.size)))).mono ?_
      rintro e wh ⟨e9, hbh⟩
      rw [decide_eq_true rfl] at e9
      subst e9
      have HBh := hid (HBf.out.trans (hbh.mono HBf.out.size))
      have HH0 := HS.out wh HBh.out
      refine hK.out _ _ HH0 ?_
      clear hK K' HH1 hbh
      try simp only [Act.put, List.setIfInBounds_toArray, List.set_cons_zero, List.set_cons_succ]
      refine anyT_take (i := 12) (oi := { dst := some 73, op := Go.Op.unOp Go.UnOp.not 4 (Go.Operand.tmp 72), type := 4, pos := "law.go:81", after := #[{ on := 11, ground := Go.Ground.data }], guard := none }) (v := ?_) rfl (by kernel_rfl) (by kernel_rfl) (by kernel_rfl) (by decide) (by decide) (by kernel_rfl) (by kernel_rfl) (fun _ _ _ h => h) (Or.inl ⟨by rfl, ?_⟩) HH0 inv (fun inv => ?_)
      rotate_left
      · intro w hSw
        try dsimp only at hSw
        go_simp
        try with_reducible rfl
      simp only [Act.put, List.setIfInBounds_toArray, List.set_cons_zero, List.set_cons_succ]
      refine anyT_take (i := 13) (oi := { dst := some 74, op := Go.Op.move (Go.Operand.tmp 73), type := 4, pos := "law.go:81", after := #[{ on := 12, ground := Go.Ground.data }, { on := 11, ground := Go.Ground.chain }], guard := none }) (v := ?_) rfl (by kernel_rfl) (by kernel_rfl) (by kernel_rfl) (by decide) (by decide) (by kernel_rfl) (by kernel_rfl) (fun _ _ _ h => h) (Or.inl ⟨by rfl, ?_⟩) HH0 inv (fun inv => ?_)
      rotate_left
      · intro w hSw
        try dsimp only at hSw
        go_simp
        try with_reducible rfl
      simp only [Act.put, List.setIfInBounds_toArray, List.set_cons_zero, List.set_cons_succ]
      refine anyT_take (i := 14) (oi := { dst := some 75, op := Go.Op.fieldAddr 49 (Go.Operand.tmp 9) 1, type := 0, pos := "law.go:81", after := #[{ on := 13, ground := Go.Ground.guard }], guard := some (13, false) }) (v := ?_) rfl (by kernel_rfl) (by kernel_rfl) (by kernel_rfl) (by decide) (by decide) (by kernel_rfl) (by kernel_rfl) (fun _ _ _ h => h) (Or.inl ⟨by rfl, ?_⟩) HH0 inv (fun inv => ?_)
      rotate_left
      · intro w hSw
        try dsimp only at hSw
        go_simp
        try with_reducible rfl
      simp only [Act.put, List.setIfInBounds_toArray, List.set_cons_zero, List.set_cons_succ]
      refine anyT_take (i := 15) (oi := { dst := some 76, op := Go.Op.load 47 (Go.Operand.tmp 75), type := 47, pos := "law.go:81", after := #[{ on := 14, ground := Go.Ground.data }, { on := 13, ground := Go.Ground.guard }], guard := some (13, false) }) (v := ?_) rfl (by kernel_rfl) (by kernel_rfl) (by kernel_rfl) (by decide) (by decide) (by kernel_rfl) (by kernel_rfl) (fun _ _ _ h => h) (Or.inl ⟨by rfl, ?_⟩) HH0 inv (fun inv => ?_)
      rotate_left
      · intro w hSw
        try dsimp only at hSw
        go_simp
        try with_reducible rfl
      simp only [Act.put, List.setIfInBounds_toArray, List.set_cons_zero, List.set_cons_succ]
      refine anyT_take (i := 16) (oi := { dst := some 77, op := Go.Op.move (Go.Operand.tmp 13), type := 3, pos := "law.go:81", after := #[{ on := 13, ground := Go.Ground.guard }], guard := some (13, false) }) (v := ?_) rfl (by kernel_rfl) (by kernel_rfl) (by kernel_rfl) (by decide) (by decide) (by kernel_rfl) (by kernel_rfl) (fun _ _ _ h => h) (Or.inl ⟨by rfl, ?_⟩) HH0 inv (fun inv => ?_)
      rotate_left
      · intro w hSw
        try dsimp only at hSw
        go_simp
        try with_reducible rfl
      simp only [Act.put, List.setIfInBounds_toArray, List.set_cons_zero, List.set_cons_succ]
      refine anyT_take (i := 17) (oi := { dst := some 78, op := Go.Op.indexAddr 47 (Go.Operand.tmp 76) (Go.Operand.tmp 77), type := 0, pos := "law.go:81", after := #[{ on := 15, ground := Go.Ground.data }, { on := 16, ground := Go.Ground.data }, { on := 13, ground := Go.Ground.guard }], guard := some (13, false) }) (v := ?_) rfl (by kernel_rfl) (by kernel_rfl) (by kernel_rfl) (by decide) (by decide) (by kernel_rfl) (by kernel_rfl) (fun _ _ _ h => h) (Or.inl ⟨by rfl, ?_⟩) HH0 inv (fun inv => ?_)
      rotate_left
      · intro w hSw
        try dsimp only at hSw
        go_simp
        try with_reducible rfl
      simp only [Act.put, List.setIfInBounds_toArray, List.set_cons_zero, List.set_cons_succ]
      refine anyT_take (i := 18) (oi := { dst := some 79, op := Go.Op.load 58 (Go.Operand.tmp 78), type := 58, pos := "law.go:81", after := #[{ on := 17, ground := Go.Ground.data }, { on := 13, ground := Go.Ground.guard }], guard := some (13, false) }) (v := ?_) rfl (by kernel_rfl) (by kernel_rfl) (by kernel_rfl) (by decide) (by decide) (by kernel_rfl) (by kernel_rfl) (fun _ _ _ h => h) (Or.inl ⟨by rfl, ?_⟩) HH0 inv (fun inv => ?_)
      rotate_left
      · intro w hSw
        try dsimp only at hSw
        go_simp
        try with_reducible rfl
      simp only [Act.put, List.setIfInBounds_toArray, List.set_cons_zero, List.set_cons_succ]
      refine anyT_take (i := 19) (oi := { dst := some 80, op := Go.Op.call { callee := Go.Callee.builtin Go.Builtin.len, args := #[Go.Operand.tmp 79], argTypes := #[58] }, type := 3, pos := "law.go:81", after := #[{ on := 18, ground := Go.Ground.data }, { on := 13, ground := Go.Ground.guard }], guard := some (13, false) }) (v := ?_) rfl (by kernel_rfl) (by kernel_rfl) (by kernel_rfl) (by decide) (by decide) (by kernel_rfl) (by kernel_rfl) (fun _ _ _ h => h) (Or.inl ⟨by rfl, ?_⟩) HH0 inv (fun inv => ?_)
      rotate_left
      · intro w hSw
        try dsimp only at hSw
        go_simp
        try with_reducible rfl
      simp only [Act.put, List.setIfInBounds_toArray, List.set_cons_zero, List.set_cons_succ]
      refine anyT_take (i := 20) (oi := { dst := some 81, op := Go.Op.fieldAddr 55 (Go.Operand.tmp 11) 1, type := 0, pos := "law.go:81", after := #[{ on := 13, ground := Go.Ground.guard }], guard := some (13, false) }) (v := ?_) rfl (by kernel_rfl) (by kernel_rfl) (by kernel_rfl) (by decide) (by decide) (by kernel_rfl) (by kernel_rfl) (fun _ _ _ h => h) (Or.inl ⟨by rfl, ?_⟩) HH0 inv (fun inv => ?_)
      rotate_left
      · intro w hSw
        try dsimp only at hSw
        go_simp
        try with_reducible rfl
      simp only [Act.put, List.setIfInBounds_toArray, List.set_cons_zero, List.set_cons_succ]
      refine anyT_take (i := 21) (oi := { dst := some 82, op := Go.Op.load 47 (Go.Operand.tmp 81), type := 47, pos := "law.go:81", after := #[{ on := 20, ground := Go.Ground.data }, { on := 13, ground := Go.Ground.guard }], guard := some (13, false) }) (v := ?_) rfl (by kernel_rfl) (by kernel_rfl) (by kernel_rfl) (by decide) (by decide) (by kernel_rfl) (by kernel_rfl) (fun _ _ _ h => h) (Or.inl ⟨by rfl, ?_⟩) HH0 inv (fun inv => ?_)
      rotate_left
      · intro w hSw
        try dsimp only at hSw
        go_simp
        try with_reducible rfl
      simp only [Act.put, List.setIfInBounds_toArray, List.set_cons_zero, List.set_cons_succ]
      refine anyT_take (i := 22) (oi := { dst := some 83, op := Go.Op.move (Go.Operand.tmp 13), type := 3, pos := "law.go:81", after := #[{ on := 13, ground := Go.Ground.guard }], guard := some (13, false) }) (v := ?_) rfl (by kernel_rfl) (by kernel_rfl) (by kernel_rfl) (by decide) (by decide) (by kernel_rfl) (by kernel_rfl) (fun _ _ _ h => h) (Or.inl ⟨by rfl, ?_⟩) HH0 inv (fun inv => ?_)
      rotate_left
      · intro w hSw
        try dsimp only at hSw
        go_simp
        try with_reducible rfl
      simp only [Act.put, List.setIfInBounds_toArray, List.set_cons_zero, List.set_cons_succ]
      refine anyT_take (i := 23) (oi := { dst := some 84, op := Go.Op.indexAddr 47 (Go.Operand.tmp 82) (Go.Operand.tmp 83), type := 0, pos := "law.go:81", after := #[{ on := 21, ground := Go.Ground.data }, { on := 22, ground := Go.Ground.data }, { on := 13, ground := Go.Ground.guard }], guard := some (13, false) }) (v := ?_) rfl (by kernel_rfl) (by kernel_rfl) (by kernel_rfl) (by decide) (by decide) (by kernel_rfl) (by kernel_rfl) (fun _ _ _ h => h) (Or.inl ⟨by rfl, ?_⟩) HH0 inv (fun inv => ?_)
      rotate_left
      · intro w hSw
        try dsimp only at hSw
        go_simp
        try with_reducible rfl
      simp only [Act.put, List.setIfInBounds_toArray, List.set_cons_zero, List.set_cons_succ]
      refine anyT_take (i := 24) (oi := { dst := some 85, op := Go.Op.load 58 (Go.Operand.tmp 84), type := 58, pos := "law.go:81", after := #[{ on := 23, ground := Go.Ground.data }, { on := 13, ground := Go.Ground.guard }], guard := some (13, false) }) (v := ?_) rfl (by kernel_rfl) (by kernel_rfl) (by kernel_rfl) (by decide) (by decide) (by kernel_rfl) (by kernel_rfl) (fun _ _ _ h => h) (Or.inl ⟨by rfl, ?_⟩) HH0 inv (fun inv => ?_)
      rotate_left
      · intro w hSw
        try dsimp only at hSw
        go_simp
        try with_reducible rfl
      simp only [Act.put, List.setIfInBounds_toArray, List.set_cons_zero, List.set_cons_succ]
      refine anyT_take (i := 25) (oi := { dst := some 86, op := Go.Op.call { callee := Go.Callee.builtin Go.Builtin.len, args := #[Go.Operand.tmp 85], argTypes := #[58] }, type := 3, pos := "law.go:81", after := #[{ on := 24, ground := Go.Ground.data }, { on := 13, ground := Go.Ground.guard }], guard := some (13, false) }) (v := ?_) rfl (by kernel_rfl) (by kernel_rfl) (by kernel_rfl) (by decide) (by decide) (by kernel_rfl) (by kernel_rfl) (fun _ _ _ h => h) (Or.inl ⟨by rfl, ?_⟩) HH0 inv (fun inv => ?_)
      rotate_left
      · intro w hSw
        try dsimp only at hSw
        go_simp
        try with_reducible rfl
      simp only [Act.put, List.setIfInBounds_toArray, List.set_cons_zero, List.set_cons_succ]
      refine anyT_take (i := 26) (oi := { dst := some 87, op := Go.Op.binOp Go.BinOp.neq 3 (Go.Operand.tmp 80) (Go.Operand.tmp 86) 3, type := 4, pos := "law.go:81", after := #[{ on := 19, ground := Go.Ground.data }, { on := 25, ground := Go.Ground.data }, { on := 13, ground := Go.Ground.guard }], guard := some (13, false) }) (v := ?_) rfl (by kernel_rfl) (by kernel_rfl) (by kernel_rfl) (by decide) (by decide) (by kernel_rfl) (by kernel_rfl) (fun _ _ _ h => h) (Or.inl ⟨by rfl, ?_⟩) HH0 inv (fun inv => ?_)
      rotate_left
      · intro w hSw
        try dsimp only at hSw
        go_simp
        try with_reducible rfl
      simp only [Act.put, List.setIfInBounds_toArray, List.set_cons_zero, List.set_cons_succ]
      refine anyT_one (i := 27) (o := { dst := some 88, op := Go.Op.pick (Go.Operand.tmp 74) (Go.Operand.const (Go.Value.bool true)) (Go.Operand.tmp 87), type := 4, pos := "law.go:81", after := #[{ on := 13, ground := Go.Ground.data }, { on := 26, ground := Go.Ground.data }], guard := none }) (by kernel_rfl) rfl (fun K' hK => ?_)
      go_simp
      refine hK.out _ _ (fun h => absurd h (by decide)) ?_
      clear hK K'
      try simp only [Act.put, List.setIfInBounds_toArray, List.set_cons_zero, List.set_cons_succ]
      refine anyT_done (by kernel_rfl) ?_ _
      clear HH0
      have HB9 := hid (HBe.out.trans (HBh.out.mono HBe.out.size))
      clear HS HUe HBf HPV HBh HBe HZ a0
      go_wp2_with fail
      go_loopw [14] (fun t14 wz => ∃ k : Nat, k ≤ rl ∧ t14 = .int .i64 (k : Int) ∧ Hid (Below wB.heap.size wB wz)) (fun t14 _ => rl - (RowKit.intOf t14).toNat)
      case atStart => exact ⟨0, Nat.zero_le _, rfl, HB9⟩
      case round =>
        clear HB9
        obtain ⟨k, hkn, rfl, HZ⟩ := hrel
        have a1 : wr.cell? ⟨w4.heap.size, 1, none⟩ = some (.slice (some ⟨nb, nf, none⟩) n nc) := Lib.cell_of_heap ((HZ.out.block _ (Array.getElem?_eq_some_iff.1 HAB.out).1).trans HAB.out) 1
        have p1 := cell_below HZ.out HP1.out
        by_cases hlk : k < rl
        · have k1 : (k : Int) < (rl : Int) := by omega
          have k0 : (0 : Int) ≤ (k : Int) := by omega
          obtain ⟨pb, pf, rfl, pq⟩ := HPQ.out (by omega)
          obtain ⟨qb, qf, rfl, qq⟩ := HQQ.out (by omega)
          have p3 := pq k hlk
          have q3 := qq k hlk
          obtain ⟨x, hx⟩ : ∃ x, R.getD k 0 = x := ⟨_, rfl⟩
          rw [hx] at p3 q3
          have HF0 : Hid (∀ w', Below wr.heap.size wr w' → w'.cell? ⟨w4.heap.size, 1, none⟩ = some (.slice (some ⟨nb, nf, none⟩) n nc)) := hid fun w' hC => cell_below hC a1
          have HF1 : Hid (∀ w', Below wr.heap.size wr w' → w'.cell? ⟨nb, nf + i, none⟩ = some (.slice (some ⟨pb, pf, none⟩) rl pc)) := hid fun w' hC => cell_below hC p1
          have HF2 : Hid (∀ w', Below wr.heap.size wr w' → w'.cell? ⟨pb, pf + k, none⟩ = some (.int .i64 x)) := hid fun w' hC => cell_below (HZ.out.trans (hC.mono HZ.out.size)) p3
          have HF3 : Hid (∀ w', Below wr.heap.size wr w' → w'.cell? ⟨w5.heap.size, 1, none⟩ = some (.slice (some ⟨mb, mf, none⟩) n mc)) := hid fun w' hC => by
            have hh := HZ.out.trans (hC.mono HZ.out.size)
            exact Lib.cell_of_heap ((hh.block _ (Array.getElem?_eq_some_iff.1 HBB.out).1).trans HBB.out) 1
          have HF4 : Hid (∀ w', Below wr.heap.size wr w' → w'.cell? ⟨mb, mf + i, none⟩ = some (.slice (some ⟨qb, qf, none⟩) rl qc)) := hid fun w' hC => cell_below (HZ.out.trans (hC.mono HZ.out.size)) HQ1.out
          have HF5 : Hid (∀ w', Below wr.heap.size wr w' → w'.cell? ⟨qb, qf + k, none⟩ = some (.int .i64 x)) := hid fun w' hC => cell_below (HZ.out.trans (hC.mono HZ.out.size)) q3
          clear pq qq p3 q3 hx
          go_wp2_with fail
          refine wp_region_below (by kernel_rfl) (by kernel_rfl) ?_
          with_reducible refine BigFrame.wpQuiet_want (by kernel_rfl) (fun K hK => ?_)
          apply Exists.intro
          refine ⟨fun w' hC => ?_, hK _ ?_⟩
          · unfold Oper.quietAt
            go_simp
            first | with_reducible rfl | done
          clear hK K
          try simp only [Act.put, List.setIfInBounds_toArray, List.set_cons_zero, List.set_cons_succ]
          with_reducible refine BigFrame.wpQuiet_want (by kernel_rfl) (fun K hK => ?_)
          apply Exists.intro
          refine ⟨fun w' hC => ?_, hK _ ?_⟩
          · have f0' := HF0.out w' hC
            have f1' := HF1.out w' hC
            have f2' := HF2.out w' hC
            have f3' := HF3.out w' hC
            have f4' := HF4.out w' hC
            have f5' := HF5.out w' hC
            unfold Oper.quietAt
            go_simp
            first | with_reducible rfl | done
          clear hK K
          try simp only [Act.put, List.setIfInBounds_toArray, List.set_cons_zero, List.set_cons_succ]
          with_reducible refine BigFrame.wpQuiet_want (by kernel_rfl) (fun K hK => ?_)
          apply Exists.intro
          refine ⟨fun w' hC => ?_, hK _ ?_⟩
          · unfold Oper.quietAt
            go_simp
            first | with_reducible rfl | done
          clear hK K
          try simp only [Act.put, List.setIfInBounds_toArray, List.set_cons_zero, List.set_cons_succ]
          with_reducible refine BigFrame.wpQuiet_want (by kernel_rfl) (fun K hK => ?_)
          apply Exists.intro
          refine ⟨fun w' hC => ?_, hK _ ?_⟩
          · unfold Oper.quietAt
            go_simp
            first | with_reducible rfl | done
          clear hK K
          try simp only [Act.put, List.setIfInBounds_toArray, List.set_cons_zero, List.set_cons_succ]
          with_reducible refine BigFrame.wpQuiet_want (by kernel_rfl) (fun K hK => ?_)
          apply Exists.intro
          refine ⟨fun w' hC => ?_, hK _ ?_⟩
          · have f0' := HF0.out w' hC
            have f1' := HF1.out w' hC
            have f2' := HF2.out w' hC
            have f3' := HF3.out w' hC
            have f4' := HF4.out w' hC
            have f5' := HF5.out w' hC
            unfold Oper.quietAt
            go_simp
            first | with_reducible rfl | done
          clear hK K
          try simp only [Act.put, List.setIfInBounds_toArray, List.set_cons_zero, List.set_cons_succ]
          with_reducible refine BigFrame.wpQuiet_want (by kernel_rfl) (fun K hK => ?_)
          apply Exists.intro
          refine ⟨fun w' hC => ?_, hK _ ?_⟩
          · unfold Oper.quietAt
            go_simp
            first | with_reducible rfl | done
          clear hK K
          try simp only [Act.put, List.setIfInBounds_toArray, List.set_cons_zero, List.set_cons_succ]
          with_reducible refine BigFrame.wpQuiet_want (by kernel_rfl) (fun K hK => ?_)
          apply Exists.intro
          refine ⟨fun w' hC => ?_, hK _ ?_⟩
          · unfold Oper.quietAt
            go_simp
            first | with_reducible rfl | done
          clear hK K
          try simp only [Act.put, List.setIfInBounds_toArray, List.set_cons_zero, List.set_cons_succ]
          with_reducible refine BigFrame.wpQuiet_want (by kernel_rfl) (fun K hK => ?_)
          apply Exists.intro
          refine ⟨fun w' hC => ?_, hK _ ?_⟩
          · have f0' := HF0.out w' hC
            have f1' := HF1.out w' hC
            have f2' := HF2.out w' hC
            have f3' := HF3.out w' hC
            have f4' := HF4.out w' hC
            have f5' := HF5.out w' hC
            unfold Oper.quietAt
            go_simp
            first | with_reducible rfl | done
          clear hK K
          try simp only [Act.put, List.setIfInBounds_toArray, List.set_cons_zero, List.set_cons_succ]
          with_reducible refine BigFrame.wpQuiet_want (by kernel_rfl) (fun K hK => ?_)
          apply Exists.intro
          refine ⟨fun w' hC => ?_, hK _ ?_⟩
          · unfold Oper.quietAt
            go_simp
            first | with_reducible rfl | done
          clear hK K
          try simp only [Act.put, List.setIfInBounds_toArray, List.set_cons_zero, List.set_cons_succ]
          with_reducible refine BigFrame.wpQuiet_want (by kernel_rfl) (fun K hK => ?_)
          apply Exists.intro
          refine ⟨fun w' hC => ?_, hK _ ?_⟩
          · have f0' := HF0.out w' hC
            have f1' := HF1.out w' hC
            have f2' := HF2.out w' hC
            have f3' := HF3.out w' hC
            have f4' := HF4.out w' hC
            have f5' := HF5.out w' hC
            unfold Oper.quietAt
            go_simp
            first | with_reducible rfl | done
          clear hK K
          try simp only [Act.put, List.setIfInBounds_toArray, List.set_cons_zero, List.set_cons_succ]
          with_reducible refine BigFrame.wpQuiet_want (by kernel_rfl) (fun K hK => ?_)
          apply Exists.intro
          refine ⟨fun w' hC => ?_, hK _ ?_⟩
          · unfold Oper.quietAt
            go_simp
            first | with_reducible rfl | done
          clear hK K
          try simp only [Act.put, List.setIfInBounds_toArray, List.set_cons_zero, List.set_cons_succ]
          with_reducible refine BigFrame.wpQuiet_want (by kernel_rfl) (fun K hK => ?_)
          apply Exists.intro
          refine ⟨fun w' hC => ?_, hK _ ?_⟩
          · unfold Oper.quietAt
            go_simp
            first | with_reducible rfl | done
          clear hK K
          try simp only [Act.put, List.setIfInBounds_toArray, List.set_cons_zero, List.set_cons_succ]
          with_reducible refine BigFrame.wpQuiet_want (by kernel_rfl) (fun K hK => ?_)
          apply Exists.intro
          refine ⟨fun w' hC => ?_, hK _ ?_⟩
          · have f0' := HF0.out w' hC
            have f1' := HF1.out w' hC
            have f2' := HF2.out w' hC
            have f3' := HF3.out w' hC
            have f4' := HF4.out w' hC
            have f5' := HF5.out w' hC
            unfold Oper.quietAt
            go_simp
            first | with_reducible rfl | done
          clear hK K
          try simp only [Act.put, List.setIfInBounds_toArray, List.set_cons_zero, List.set_cons_succ]
          with_reducible refine BigFrame.wpQuiet_want (by kernel_rfl) (fun K hK => ?_)
          apply Exists.intro
          refine ⟨fun w' hC => ?_, hK _ ?_⟩
          · unfold Oper.quietAt
            go_simp
            first | with_reducible rfl | done
          clear hK K
          try simp only [Act.put, List.setIfInBounds_toArray, List.set_cons_zero, List.set_cons_succ]
          with_reducible refine BigFrame.wpQuiet_want (by kernel_rfl) (fun K hK => ?_)
          apply Exists.intro
          refine ⟨fun w' hC => ?_, hK _ ?_⟩
          · unfold Oper.quietAt
            go_simp
            first | with_reducible rfl | done
          clear hK K
          try simp only [Act.put, List.setIfInBounds_toArray, List.set_cons_zero, List.set_cons_succ]
          with_reducible refine BigFrame.wpQuiet_want (by kernel_rfl) (fun K hK => ?_)
          apply Exists.intro
          refine ⟨fun w' hC => ?_, hK _ ?_⟩
          · have f0' := HF0.out w' hC
            have f1' := HF1.out w' hC
            have f2' := HF2.out w' hC
            have f3' := HF3.out w' hC
            have f4' := HF4.out w' hC
            have f5' := HF5.out w' hC
            unfold Oper.quietAt
            go_simp
            first | with_reducible rfl | done
          clear hK K
          try simp only [Act.put, List.setIfInBounds_toArray, List.set_cons_zero, List.set_cons_succ]
          with_reducible refine BigFrame.wpQuiet_want (by kernel_rfl) (fun K hK => ?_)
          apply Exists.intro
          refine ⟨fun w' hC => ?_, hK _ ?_⟩
          · unfold Oper.quietAt
            go_simp
            first | with_reducible rfl | done
          clear hK K
          try simp only [Act.put, List.setIfInBounds_toArray, List.set_cons_zero, List.set_cons_succ]
          refine wpQuiet_nil ?_
          intro w9 hb9
          have HB9 := hid (HZ.out.trans (hb9.mono HZ.out.size))
          clear hb9
          go_wp2_with fail
          refine ⟨⟨k + 1, by omega, rfl, HB9⟩, ?_⟩
          show rl - ((k : Int) + 1).toNat < rl - ((k : Int)).toNat
          omega
        · have k1 : ¬ (k : Int) < (rl : Int) := by omega
          go_wp2_with fail
          refine ⟨⟨i + 1, by omega, rfl, HZ⟩, ?_⟩
          show n - ((i : Int) + 1).toNat < n - ((i : Int)).toNat
          omega
    · have i1 : ¬ (i : Int) < (n : Int) := by omega
      obtain ⟨z, hz⟩ : ∃ z, goX G NX a s = z := ⟨_, rfl⟩
      have HG : Hid (∀ w', Below wr.heap.size wr w' → Calls Tryd.prog 22 #[.agg #[.slice to_ nt tc, ov, sv, pv, .int .i64 G.start], .agg #[.slice ko n kc, .slice no_ n nc], .int .i64 a, .int .i64 s] w' fun e w'' => e = .returned (.int .i64 z) ∧ Below w'.heap.size w' w'') := hid fun w' hC => by
        rw [← hz]
        have hh := HZ.out.trans (hC.mono HZ.out.size)
        exact Go_any (HGr.out.below (HB6.out.trans (hh.mono HB6.out.size))) (HAV.out.below hh) HOKN.out a s HSR.out.1 HSR.out.2
      have HR : Hid (∀ w', Below wr.heap.size wr w' → Calls Tryd.prog 23 #[.agg #[.slice to_ nt tc, ov, sv, pv, .int .i64 G.start], .agg #[.slice lo n lc, .slice mo n mc], .int .i64 a, .int .i64 s] w' fun e w'' => e = .returned (.int .i64 z) ∧ Below w'.heap.size w' w'') := hid fun w' hC => by
        rw [← hz]
        have hh := HZ.out.trans (hC.mono HZ.out.size)
        exact RGo_any (HGr.out.below (HB6.out.trans (hh.mono HB6.out.size))) (HBV.out.below hh) HOKN.out a s HSR.out.1 HSR.out.2
      have HF0 : Hid (∀ w', Below wr.heap.size wr w' → w'.cell? ⟨w.heap.size, 0, none⟩ = some (.slice to_ nt tc)) := hid fun w' hC => by
        have hh := HZ.out.trans (hC.mono HZ.out.size)
        exact Lib.cell_of_heap ((hh.block _ (Array.getElem?_eq_some_iff.1 HNB.out).1).trans HNB.out) 0
      have HF1 : Hid (∀ w', Below wr.heap.size wr w' → w'.cell? ⟨w.heap.size, 1, none⟩ = some (ov)) := hid fun w' hC => by
        have hh := HZ.out.trans (hC.mono HZ.out.size)
        exact Lib.cell_of_heap ((hh.block _ (Array.getElem?_eq_some_iff.1 HNB.out).1).trans HNB.out) 1
      have HF2 : Hid (∀ w', Below wr.heap.size wr w' → w'.cell? ⟨w.heap.size, 2, none⟩ = some (sv)) := hid fun w' hC => by
        have hh := HZ.out.trans (hC.mono HZ.out.size)
        exact Lib.cell_of_heap ((hh.block _ (Array.getElem?_eq_some_iff.1 HNB.out).1).trans HNB.out) 2
      have HF3 : Hid (∀ w', Below wr.heap.size wr w' → w'.cell? ⟨w.heap.size, 3, none⟩ = some (pv)) := hid fun w' hC => by
        have hh := HZ.out.trans (hC.mono HZ.out.size)
        exact Lib.cell_of_heap ((hh.block _ (Array.getElem?_eq_some_iff.1 HNB.out).1).trans HNB.out) 3
      have HF4 : Hid (∀ w', Below wr.heap.size wr w' → w'.cell? ⟨w.heap.size, 4, none⟩ = some (.int .i64 G.start)) := hid fun w' hC => by
        have hh := HZ.out.trans (hC.mono HZ.out.size)
        exact Lib.cell_of_heap ((hh.block _ (Array.getElem?_eq_some_iff.1 HNB.out).1).trans HNB.out) 4
      have HF5 : Hid (∀ w', Below wr.heap.size wr w' → w'.cell? ⟨w4.heap.size, 0, none⟩ = some (.slice ko n kc)) := hid fun w' hC => by
        have hh := HZ.out.trans (hC.mono HZ.out.size)
        exact Lib.cell_of_heap ((hh.block _ (Array.getElem?_eq_some_iff.1 HAB.out).1).trans HAB.out) 0
      have HF6 : Hid (∀ w', Below wr.heap.size wr w' → w'.cell? ⟨w4.heap.size, 1, none⟩ = some (.slice no_ n nc)) := hid fun w' hC => by
        have hh := HZ.out.trans (hC.mono HZ.out.size)
        exact Lib.cell_of_heap ((hh.block _ (Array.getElem?_eq_some_iff.1 HAB.out).1).trans HAB.out) 1
      have HF7 : Hid (∀ w', Below wr.heap.size wr w' → w'.cell? ⟨w5.heap.size, 0, none⟩ = some (.slice lo n lc)) := hid fun w' hC => by
        have hh := HZ.out.trans (hC.mono HZ.out.size)
        exact Lib.cell_of_heap ((hh.block _ (Array.getElem?_eq_some_iff.1 HBB.out).1).trans HBB.out) 0
      have HF8 : Hid (∀ w', Below wr.heap.size wr w' → w'.cell? ⟨w5.heap.size, 1, none⟩ = some (.slice mo n mc)) := hid fun w' hC => by
        have hh := HZ.out.trans (hC.mono HZ.out.size)
        exact Lib.cell_of_heap ((hh.block _ (Array.getElem?_eq_some_iff.1 HBB.out).1).trans HBB.out) 1
      clear hz
      go_wp2_with fail
      refine wp_region_below (by kernel_rfl) (by kernel_rfl) ?_
      with_reducible refine BigFrame.wpQuiet_want (by kernel_rfl) (fun K hK => ?_)
      apply Exists.intro
      refine ⟨fun w' hC => ?_, hK _ ?_⟩
      · unfold Oper.quietAt
        go_simp
        first | with_reducible rfl | done
      clear hK K
      try simp only [Act.put, List.setIfInBounds_toArray, List.set_cons_zero, List.set_cons_succ]
      with_reducible refine BigFrame.wpQuiet_want (by kernel_rfl) (fun K hK => ?_)
      apply Exists.intro
      refine ⟨fun w' hC => ?_, hK _ ?_⟩
      · unfold Oper.quietAt
        go_simp
        first | with_reducible rfl | done
      clear hK K
      try simp only [Act.put, List.setIfInBounds_toArray, List.set_cons_zero, List.set_cons_succ]
      with_reducible refine BigFrame.wpQuiet_want (by kernel_rfl) (fun K hK => ?_)
      apply Exists.intro
      refine ⟨fun w' hC => ?_, hK _ ?_⟩
      · have f0' := HF0.out w' hC
        have f1' := HF1.out w' hC
        have f2' := HF2.out w' hC
        have f3' := HF3.out w' hC
        have f4' := HF4.out w' hC
        have f5' := HF5.out w' hC
        have f6' := HF6.out w' hC
        have f7' := HF7.out w' hC
        have f8' := HF8.out w' hC
        unfold Oper.quietAt
        go_simp
        first | with_reducible rfl | done
      clear hK K
      try simp only [Act.put, List.setIfInBounds_toArray, List.set_cons_zero, List.set_cons_succ]
      with_reducible refine BigFrame.wpQuiet_want (by kernel_rfl) (fun K hK => ?_)
      apply Exists.intro
      refine ⟨fun w' hC => ?_, hK _ ?_⟩
      · have f0' := HF0.out w' hC
        have f1' := HF1.out w' hC
        have f2' := HF2.out w' hC
        have f3' := HF3.out w' hC
        have f4' := HF4.out w' hC
        have f5' := HF5.out w' hC
        have f6' := HF6.out w' hC
        have f7' := HF7.out w' hC
        have f8' := HF8.out w' hC
        unfold Oper.quietAt
        go_simp
        first | with_reducible rfl | done
      clear hK K
      try simp only [Act.put, List.setIfInBounds_toArray, List.set_cons_zero, List.set_cons_succ]
      with_reducible refine BigFrame.wpQuiet_want (by kernel_rfl) (fun K hK => ?_)
      apply Exists.intro
      refine ⟨fun w' hC => ?_, hK _ ?_⟩
      · unfold Oper.quietAt
        go_simp
        first | with_reducible rfl | done
      clear hK K
      try simp only [Act.put, List.setIfInBounds_toArray, List.set_cons_zero, List.set_cons_succ]
      with_reducible refine BigFrame.wpQuiet_want (by kernel_rfl) (fun K hK => ?_)
      apply Exists.intro
      refine ⟨fun w' hC => ?_, hK _ ?_⟩
      · unfold Oper.quietAt
        go_simp
        first | with_reducible rfl | done
      clear hK K
      try simp only [Act.put, List.setIfInBounds_toArray, List.set_cons_zero, List.set_cons_succ]
      with_reducible refine BigFrame.wpQuiet_want (by kernel_rfl) (fun K hK => ?_)
      apply Exists.intro
      refine ⟨fun w' hC => ?_, hK _ ?_⟩
      · unfold Oper.quietAt
        go_simp
        first
          | with_reducible exact below_call hC (Nat.le_refl _) (HG.out w' hC)
          | with_reducible exact below_call hC (Nat.le_refl _) (HR.out w' hC)
      clear hK K
      try simp only [Act.put, List.setIfInBounds_toArray, List.set_cons_zero, List.set_cons_succ]
      with_reducible refine BigFrame.wpQuiet_want (by kernel_rfl) (fun K hK => ?_)
      apply Exists.intro
      refine ⟨fun w' hC => ?_, hK _ ?_⟩
      · have f0' := HF0.out w' hC
        have f1' := HF1.out w' hC
        have f2' := HF2.out w' hC
        have f3' := HF3.out w' hC
        have f4' := HF4.out w' hC
        have f5' := HF5.out w' hC
        have f6' := HF6.out w' hC
        have f7' := HF7.out w' hC
        have f8' := HF8.out w' hC
        unfold Oper.quietAt
        go_simp
        first | with_reducible rfl | done
      clear hK K
      try simp only [Act.put, List.setIfInBounds_toArray, List.set_cons_zero, List.set_cons_succ]
      with_reducible refine BigFrame.wpQuiet_want (by kernel_rfl) (fun K hK => ?_)
      apply Exists.intro
      refine ⟨fun w' hC => ?_, hK _ ?_⟩
      · have f0' := HF0.out w' hC
        have f1' := HF1.out w' hC
        have f2' := HF2.out w' hC
        have f3' := HF3.out w' hC
        have f4' := HF4.out w' hC
        have f5' := HF5.out w' hC
        have f6' := HF6.out w' hC
        have f7' := HF7.out w' hC
        have f8' := HF8.out w' hC
        unfold Oper.quietAt
        go_simp
        first | with_reducible rfl | done
      clear hK K
      try simp only [Act.put, List.setIfInBounds_toArray, List.set_cons_zero, List.set_cons_succ]
      with_reducible refine BigFrame.wpQuiet_want (by kernel_rfl) (fun K hK => ?_)
      apply Exists.intro
      refine ⟨fun w' hC => ?_, hK _ ?_⟩
      · unfold Oper.quietAt
        go_simp
        first | with_reducible rfl | done
      clear hK K
      try simp only [Act.put, List.setIfInBounds_toArray, List.set_cons_zero, List.set_cons_succ]
      with_reducible refine BigFrame.wpQuiet_want (by kernel_rfl) (fun K hK => ?_)
      apply Exists.intro
      refine ⟨fun w' hC => ?_, hK _ ?_⟩
      · unfold Oper.quietAt
        go_simp
        first | with_reducible rfl | done
      clear hK K
      try simp only [Act.put, List.setIfInBounds_toArray, List.set_cons_zero, List.set_cons_succ]
      with_reducible refine BigFrame.wpQuiet_want (by kernel_rfl) (fun K hK => ?_)
      apply Exists.intro
      refine ⟨fun w' hC => ?_, hK _ ?_⟩
      · unfold Oper.quietAt
        go_simp
        first
          | with_reducible exact below_call hC (Nat.le_refl _) (HG.out w' hC)
          | with_reducible exact below_call hC (Nat.le_refl _) (HR.out w' hC)
      clear hK K
      try simp only [Act.put, List.setIfInBounds_toArray, List.set_cons_zero, List.set_cons_succ]
      with_reducible refine BigFrame.wpQuiet_want (by kernel_rfl) (fun K hK => ?_)
      apply Exists.intro
      refine ⟨fun w' hC => ?_, hK _ ?_⟩
      · unfold Oper.quietAt
        go_simp
        first | with_reducible rfl | done
      clear hK K
      try simp only [Act.put, List.setIfInBounds_toArray, List.set_cons_zero, List.set_cons_succ]
      with_reducible refine BigFrame.wpQuiet_want (by kernel_rfl) (fun K hK => ?_)
      apply Exists.intro
      refine ⟨fun w' hC => ?_, hK _ ?_⟩
      · unfold Oper.quietAt
        go_simp
        first | with_reducible rfl | done
      clear hK K
      try simp only [Act.put, List.setIfInBounds_toArray, List.set_cons_zero, List.set_cons_succ]
      with_reducible refine BigFrame.wpQuiet_want (by kernel_rfl) (fun K hK => ?_)
      apply Exists.intro
      refine ⟨fun w' hC => ?_, hK _ ?_⟩
      · unfold Oper.quietAt
        go_simp
        first | with_reducible rfl | done
      clear hK K
      try simp only [Act.put, List.setIfInBounds_toArray, List.set_cons_zero, List.set_cons_succ]
      refine wpQuiet_nil ?_
      intro w9 hb9
      have HB9 := hid (HB6.out.trans ((HZ.out.trans (hb9.mono HZ.out.size)).mono HB6.out.size))
      clear hb9
      go_wp2_with fail
      go_ret
      exact ⟨rfl, HB9.out⟩
end Go.Proofs.YtjpbhbfklkipkaaDoor
