/- Little; where a state goes, and what stands behind a symbol. -/
import Derived.Test.YticmnfmijdgmbaaGreatDoorTc
import Derived.Test.YticmnfmijdgmbaaGreatDoorQHs
import Derived.Test.YticmnfmijdgmbaaGreatDoorQMf
namespace Go.Proofs.YticmnfmijdgmbaaGreatDoor
open Go Go.RowKit Go.Lib
open X14 (It closeV closeX stepV stepX behX symsX iterB BuiltOk)
set_option linter.unusedVariables false
set_option linter.unusedSimpArgs false
def LittleP (w : World) (e : Ending) (w' : World) : Prop := ∃ b, e = .returned (.bool b) ∧ Below w.heap.size w w'
set_option maxRecDepth 100000 in
set_option maxHeartbeats 4000000 in
theorem Little_any {G : GD} {gv : Value} {w : World} (h : Gram w gv G) : Calls Tryz.prog 16 #[gv] w (LittleP w) := by
 have HGr := hid h
 obtain ⟨tv, ov, sv, pv, tf, rv, h⟩ := h
 have hgv := h.eq
 subst hgv
 have HRI := hid h.rights
 obtain ⟨pa, pc, rfl, hpn, hpc⟩ := h.prods
 obtain ⟨np, hnp⟩ : ∃ np, G.prods.length = np := ⟨_, rfl⟩
 have HNP := hid hnp
 have HPC := hid hpc
 rw [hnp] at HGr hpn ⊢
 obtain ⟨W1, e1⟩ : ∃ W1, w.alloc (.cells #[tv, ov, sv, .slice pa np pc, .int .i64 G.start] 27) = W1 := ⟨_, rfl⟩
 have hb1 : Below w.heap.size w W1 := by rw [← e1]; exact (Below.refl _ _).alloc (Nat.le_refl _) _
 have n1 : W1.heap[w.heap.size]? = some (.cells #[tv, ov, sv, .slice pa np pc, .int .i64 G.start] 27 (0, 0)) := by rw [← e1]; exact new_block _ _
 have HB1 := hid hb1
 have HN1 := hid n1
 obtain ⟨tv', ov', sv', pv', tf', rv', hg1⟩ := HGr.out.below hb1
 obtain ⟨fw, hfw⟩ : ∃ fw, decide (fewG G) = fw := ⟨_, rfl⟩
 have KF := few_any hg1
 rw [hfw] at KF
 have KF := hid KF
 have c0 : W1.cell? ⟨w.heap.size, 0, none⟩ = some tv := Lib.cell_of_heap n1 0
 have c1 : W1.cell? ⟨w.heap.size, 1, none⟩ = some ov := Lib.cell_of_heap n1 1
 have c2 : W1.cell? ⟨w.heap.size, 2, none⟩ = some sv := Lib.cell_of_heap n1 2
 have c3 : W1.cell? ⟨w.heap.size, 3, none⟩ = some (.slice pa np pc) := Lib.cell_of_heap n1 3
 have c4 : W1.cell? ⟨w.heap.size, 4, none⟩ = some (.int .i64 G.start) := Lib.cell_of_heap n1 4
 clear h hb1 n1 hg1 hnp hpc hfw
 go_enter Tryz.func16, Tryz.ntmps16
 go_wp2_with fail
 refine KF.out.mono ?_
 rintro e w2 ⟨rfl, hb2⟩
 have HB2 := hid (HB1.out.trans (hb2.mono HB1.out.size))
 have HN2 := hid ((hb2.block _ (Array.getElem?_eq_some_iff.1 HN1.out).1).trans HN1.out)
 have c3 : w2.cell? ⟨w.heap.size, 3, none⟩ = some (.slice pa np pc) := Lib.cell_of_heap HN2.out 3
 clear hb2 KF e1 c0 c1 c2 c4
 go_wp2_with fail
 go_loopw [4] (fun t4 wr => ∃ k : Nat, k ≤ np ∧ t4 = .int .i64 (k : Int) ∧ wr = w2) (fun t4 _ => np - (RowKit.intOf t4).toNat)
 case atStart => exact ⟨0, Nat.zero_le _, rfl, by first | trivial | rfl⟩
 case round =>
  obtain ⟨k, hk, rfl, hww⟩ := hrel
  subst hww
  by_cases hlt : k < np
  ·have t1 : (k : Int) < (np : Int) := by omega
   have t2 : (0 : Int) ≤ (k : Int) := by omega
   by_cases h15 : k < 15
   ·have t3 : (k : Int) < 15 := by omega
    obtain ⟨pb, po, rfl, hpq⟩ := HPC.out (by rw [HNP.out]; omega)
    have q2 := cell_below HB2.out (hpq k (by rw [HNP.out]; exact hlt)).2.2.1
    obtain ⟨⟨ra, rc, hrv, _⟩, _⟩ := HRI.out k (by rw [HNP.out]; exact hlt)
    rw [hrv] at q2
    generalize (G.prods.getD k default).rs.length = rl at *
    clear hpq hrv
    by_cases h5 : 5 < rl
    ·have t4 : (5 : Int) < (rl : Int) := by omega
     go_wp2_with fail
     go_ret
     exact ⟨_, rfl, HB2.out⟩
    ·have t4 : ¬ (5 : Int) < (rl : Int) := by omega
     go_wp2_with fail
     refine ⟨⟨k + 1, by omega, rfl, by first | trivial | rfl⟩, ?_⟩
     show np - ((k : Int) + 1).toNat < np - ((k : Int)).toNat
     omega
   ·have t3 : ¬ (k : Int) < 15 := by omega
    have t5 : ¬ (np : Int) ≤ 10 := by omega
    cases fw
    ·go_wp2_with fail
     go_ret
     exact ⟨_, rfl, HB2.out⟩
    ·go_wp2_with fail
     go_ret
     exact ⟨_, rfl, HB2.out⟩
  ·have t1 : ¬ (k : Int) < (np : Int) := by omega
   cases fw
   ·go_wp2_with fail
    go_ret
    exact ⟨_, rfl, HB2.out⟩
   ·by_cases h10 : np ≤ 10
    ·have t5 : (np : Int) ≤ 10 := by omega
     go_wp2_with fail
     go_ret
     exact ⟨_, rfl, HB2.out⟩
    ·have t5 : ¬ (np : Int) ≤ 10 := by omega
     go_wp2_with fail
     go_ret
     exact ⟨_, rfl, HB2.out⟩
end Go.Proofs.YticmnfmijdgmbaaGreatDoor

/- What All answers, for a law; the walk of LookBegins. -/
namespace Go.Proofs.YticmnfmijdgmbaaGreatDoor
open Go Go.RowKit Go.Lib
open X14 (It exG closeX iterB BuiltOk BuiltMany rightX behX sortX)
open S13 (u64 bitN top E0 F0 Sub hasN)
open S13.X15 (Pl LeastA askX places cxB)
set_option linter.unusedVariables false
set_option linter.unusedSimpArgs false
theorem built_le {G : GD} {n : Nat} (h : BuiltOk G n) : n ≤ 2000 := by
 have := h.1.le
 rw [h.inv.2.2] at this
 exact this
abbrev uv (n : Nat) : Value := .int .u64 (n : Int)
def LookR (w : World) (lb lf n : Nat) (C : Nat → List It) (A : Pl → Nat) : Prop := ∀ i, i < n → ∃ io ic ao ac, w.cell? ⟨lb, lf + i * 2, none⟩ = some (.slice io (C i).length ic) ∧ w.cell? ⟨lb, lf + i * 2 + 1, none⟩ = some (.slice ao (C i).length ac) ∧
 ItemsAt w (.slice io (C i).length ic) (C i) ∧ U64s w (.slice ao (C i).length ac) ((C i).map fun x => A (i, x)) ∧ ∀ k x, (C i)[k]? = some x → ∃ ib jf ab af, io = some ⟨ib, jf, none⟩ ∧ w.cell? ⟨ib, jf + k * 2, none⟩ = some (.int .i64 x.1) ∧ w.cell? ⟨ib, jf + k * 2 + 1, none⟩ = some (.int .i64 x.2) ∧ ao = some ⟨ab, af, none⟩ ∧ w.cell? ⟨ab, af + k, none⟩ = some (u64 (A (i, x)))
theorem look_r {w : World} {v : Value} {n : Nat} {C : Nat → List It} {A : Pl → Nat} (h : LookAt w v n C A) (hn : 0 < n) : ∃ lb lf lc, v = .slice (some ⟨lb, lf, none⟩) n lc ∧ LookR w lb lf n C A := by
 obtain ⟨o, lc, rfl, _, h⟩ := h
 obtain ⟨lb, lf, rfl, h0⟩ := h hn
 refine ⟨lb, lf, lc, rfl, fun i hi => ?_⟩
 obtain ⟨iv, av, h1, h2, h3, h4⟩ := h0 i hi
 obtain ⟨io, ic, rfl, _, hix⟩ := id h3
 obtain ⟨ao, ac, hav, _, hax⟩ := id h4
 rw [List.length_map] at hav hax
 subst hav
 refine ⟨io, ic, ao, ac, h1, h2, h3, h4, fun k x hk => ?_⟩
 have hkl := (List.getElem?_eq_some_iff.1 hk).1
 obtain ⟨ib, jf, rfl, hi2⟩ := hix (by omega)
 obtain ⟨ab, af, rfl, ha2⟩ := hax (by omega)
 have e1 : w.cell? ⟨ib, jf + k * 2, none⟩ = some (.int .i64 ((C i).getD k (0, 0)).1) ∧ w.cell? ⟨ib, jf + k * 2 + 1, none⟩ = some (.int .i64 ((C i).getD k (0, 0)).2) := hi2 k hkl
 have e2 : w.cell? ⟨ab, af + k, none⟩ = some (u64 (((C i).map fun x => A (i, x)).getD k 0)) := ha2 k hkl
 rw [X14.getD_get hk] at e1
 have e3 : ((C i).map fun x => A (i, x)).getD k 0 = A (i, x) := by
  refine X14.getD_get ?_
  rw [List.getElem?_map, hk]
  rfl
 rw [e3] at e2
 exact ⟨ib, jf, ab, af, rfl, e1.1, e1.2, rfl, e2⟩
theorem LookR.below {w w' : World} {lb lf n : Nat} {C : Nat → List It} {A : Pl → Nat} (h : LookR w lb lf n C A) (hb : Below w.heap.size w w') : LookR w' lb lf n C A := fun i hi => by
 obtain ⟨io, ic, ao, ac, h1, h2, h3, h4, h5⟩ := h i hi
 refine ⟨io, ic, ao, ac, cell_below hb h1, cell_below hb h2, h3.below hb, h4.below hb, fun k x hk => ?_⟩
 obtain ⟨ib, jf, ab, af, e1, e2, e3, e4, e5⟩ := h5 k x hk
 exact ⟨ib, jf, ab, af, e1, cell_below hb e2, cell_below hb e3, e4, cell_below hb e5⟩
open S13.X15 (cntS cntW cntS_succ cntW_take)
end Go.Proofs.YticmnfmijdgmbaaGreatDoor

/- The document's Go. -/
namespace Go.Proofs.YticmnfmijdgmbaaGreatDoor
open Go Go.RowKit Go.Lib
set_option linter.unusedVariables false
set_option linter.unusedSimpArgs false
set_option maxRecDepth 100000 in
set_option maxHeartbeats 8000000 in
theorem RGo_any {G : GD} {gv av : Value} {w : World} {ker : List (List X14.It)} {nx : List (List Int)} (h : Gram w gv G) (ha : AutAt w av ker nx) (hok : NxOk G nx) (at_ s : Int) (s0 : -9223372036854775808 ≤ s) (s1 : s ≤ 9223372036854775807) :
  Calls Tryz.prog 77 #[gv, av, .int .i64 at_, .int .i64 s] w fun e w' => e = .returned (.int .i64 (goX G nx at_ s)) ∧ Below w.heap.size w w' := by
 obtain ⟨tv, ov, sv, pv, tf, rv, h⟩ := h
 have hgv := h.eq
 subst hgv
 obtain ⟨to_, tc, rfl, htn, _⟩ := h.terms
 obtain ⟨kv, nv, rfl, hkv, hnv⟩ := ha
 obtain ⟨no, nc, rfl, hnn⟩ := hnv.len
 obtain ⟨W1, e1⟩ : ∃ W1, w.alloc (.cells #[.slice to_ G.terms.length tc, ov, sv, pv, .int .i64 G.start] 27) = W1 := ⟨_, rfl⟩
 have hb1 : Below w.heap.size w W1 := by rw [← e1]; exact (Below.refl _ _).alloc (Nat.le_refl _) _
 have n1 : W1.heap[w.heap.size]? = some (.cells #[.slice to_ G.terms.length tc, ov, sv, pv, .int .i64 G.start] 27 (0, 0)) := by rw [← e1]; exact new_block _ _
 obtain ⟨W2, e2⟩ : ∃ W2, W1.alloc (.cells #[kv, .slice no nx.length nc] 38) = W2 := ⟨_, rfl⟩
 have hb2 : Below W1.heap.size W1 W2 := by rw [← e2]; exact (Below.refl _ _).alloc (Nat.le_refl _) _
 have n2 : W2.heap[W1.heap.size]? = some (.cells #[kv, .slice no nx.length nc] 38 (0, 0)) := by rw [← e2]; exact new_block _ _
 have hbw := hb1.trans (hb2.mono hb1.size)
 have n1' := (hb2.block _ (Array.getElem?_eq_some_iff.1 n1).1).trans n1
 have c0 : W2.cell? ⟨w.heap.size, 0, none⟩ = some (.slice to_ G.terms.length tc) := Lib.cell_of_heap n1' 0
 have d1 : W2.cell? ⟨W1.heap.size, 1, none⟩ = some (.slice no nx.length nc) := Lib.cell_of_heap n2 1
 have HBW := hid hbw
 have HNV := hid (hnv.below (q := fun i u => IntsAt W2 u (nx.getD i [])) hbw fun i u hu => hu.mono hbw)
 have HOK := hid hok
 obtain ⟨r, hr⟩ : ∃ r, goX G nx at_ s = r := ⟨_, rfl⟩
 have HR := hid hr
 rw [hr]
 obtain ⟨nt, hnt⟩ : ∃ nt, G.terms.length = nt := ⟨_, rfl⟩
 obtain ⟨ns, hns⟩ : ∃ ns, G.sorts.length = ns := ⟨_, rfl⟩
 obtain ⟨n, hn⟩ : ∃ n, nx.length = n := ⟨_, rfl⟩
 have HN := hid hn
 have HLEN := hid (show ∀ R ∈ nx, R.length = nt + ns ∧ ∀ v ∈ R, v = -1 ∨ (0 ≤ v ∧ v < (n : Int)) from by rw [← hnt, ← hns, ← hn]; exact hok)
 have hPX : placeX G s = if 0 ≤ s then (if s < (nt : Int) then some s.toNat else none) else (if -1 - s < (ns : Int) then some (nt + (-1 - s).toNat) else none) := by unfold placeX; rw [hnt, hns]
 have HPX := hid hPX
 rw [hnt] at e1 htn ⊢
 rw [hn] at e2 d1 ⊢
 rw [hnt] at c0
 clear h hkv hnv hok hb1 hb2 n1 n2 n1' hbw hr hnt hns hn hPX
 by_cases hat : 0 ≤ at_ ∧ at_ < (n : Int)
 case neg =>
  obtain rfl : -1 = r := by rw [← HR.out, goX_off (by rw [HN.out]; exact hat)]
  by_cases hs : s < 0
  ·have y0 : decide (s < 0) = true := decide_eq_true hs
   obtain ⟨t, hst⟩ : ∃ t : Nat, -1 - s = (t : Int) := ⟨(-1 - s).toNat, by omega⟩
   have hws : IntKind.i64.wrap (-1 - s) = (t : Int) := by rw [wrap_small (by omega) (by omega), hst]
   obtain ⟨kk, hkk⟩ : ∃ kk, IntKind.i64.wrap ((nt : Int) + (t : Int)) = kk := ⟨_, rfl⟩
   by_cases ha0 : at_ < 0
   ·have z0 : decide (at_ < 0) = true := decide_eq_true ha0
    clear hat
    go_enter Tryz.func77, Tryz.ntmps77
    go_wp2_with fail
    go_ret
    exact ⟨rfl, HBW.out⟩
   ·have z0 : decide (at_ < 0) = false := decide_eq_false ha0
    have z1 : (n : Int) ≤ at_ := by omega
    clear hat
    go_enter Tryz.func77, Tryz.ntmps77
    go_wp2_with fail
    go_ret
    exact ⟨rfl, HBW.out⟩
  ·have y0 : decide (s < 0) = false := decide_eq_false hs
   by_cases ha0 : at_ < 0
   ·have z0 : decide (at_ < 0) = true := decide_eq_true ha0
    clear hat
    go_enter Tryz.func77, Tryz.ntmps77
    go_wp2_with fail
    go_ret
    exact ⟨rfl, HBW.out⟩
   ·have z0 : decide (at_ < 0) = false := decide_eq_false ha0
    have z1 : (n : Int) ≤ at_ := by omega
    clear hat
    go_enter Tryz.func77, Tryz.ntmps77
    go_wp2_with fail
    go_ret
    exact ⟨rfl, HBW.out⟩
 obtain ⟨i, rfl⟩ : ∃ i : Nat, at_ = (i : Int) := ⟨at_.toNat, by omega⟩
 have hin : i < n := by omega
 have z0 : decide ((i : Int) < 0) = false := decide_eq_false (by omega)
 have z1 : decide (n ≤ i) = false := decide_eq_false (by omega)
 have z2 : ¬ (n : Int) ≤ (i : Int) := by omega
 have i0 : (0 : Int) ≤ (i : Int) := by omega
 have i1 : (i : Int) < (n : Int) := by omega
 clear hat
 obtain ⟨R, hRx⟩ : ∃ R, nx[i]? = some R := ⟨_, List.getElem?_eq_getElem (by rw [HN.out]; exact hin)⟩
 have HRX := hid hRx
 obtain ⟨hRl, hRv⟩ := HLEN.out R (List.mem_of_getElem? hRx)
 have hnv2 := HNV.out
 obtain ⟨nb, noff, u, rfl, u1, u2⟩ := hnv2.at_ (k := i) (by rw [HN.out]; exact hin)
 rw [X14.getD_get hRx] at u2
 obtain ⟨⟨ro, rc, rfl, hrn, hrq⟩, _⟩ := u2
 obtain ⟨rl, hrl⟩ : ∃ rl, R.length = rl := ⟨_, rfl⟩
 have HRL := hid hrl
 rw [hrl] at u1 hrn hRl hrq
 clear hnv2 hRx hrl hRv
 by_cases hs : s < 0
 ·have y0 : decide (s < 0) = true := decide_eq_true hs
  obtain ⟨t, hst⟩ : ∃ t : Nat, -1 - s = (t : Int) := ⟨(-1 - s).toNat, by omega⟩
  have hws : IntKind.i64.wrap (-1 - s) = (t : Int) := by rw [wrap_small (by omega) (by omega), hst]
  by_cases hq : t < ns
  ·have HPL := hid (show placeX G s = some (nt + t) from by rw [HPX.out, if_neg (by omega), if_pos (by omega), hst, Int.toNat_natCast])
   obtain ⟨v, hv⟩ : ∃ v, R[nt + t]? = some v := ⟨_, List.getElem?_eq_getElem (by rw [HRL.out]; omega)⟩
   obtain rfl : v = r := by rw [← HR.out, goX_at HPL.out HRX.out hv]
   obtain ⟨rb, roff, rfl, hrq2⟩ := hrq (by omega)
   have u3 := hrq2 (nt + t) (by omega)
   dsimp only at u3
   rw [X14.getD_get hv] at u3
   have hww : IntKind.i64.wrap ((nt : Int) + (t : Int)) = (nt : Int) + (t : Int) := wrap_small (by omega) (by omega)
   have k0 : ¬ ((nt : Int) + (t : Int)) < 0 := by omega
   have k1 : ¬ (rl : Int) ≤ ((nt : Int) + (t : Int)) := by omega
   have k2 : decide ((rl : Int) ≤ ((nt : Int) + (t : Int))) = false := decide_eq_false k1
   have k3 : ((nt : Int) + (t : Int)) < (rl : Int) := by omega
   have k4 : (0 : Int) ≤ ((nt : Int) + (t : Int)) := by omega
   have k6 : (((nt : Int) + (t : Int))).toNat = nt + t := by omega
   have k5 : decide (rl ≤ nt + t) = false := decide_eq_false (by omega)
   have k7 : ¬ (nt : Int) ≤ s := by omega
   have k8 : decide ((nt : Int) ≤ s) = false := decide_eq_false k7
   have k9 : decide (((nt : Int) + (t : Int)) < 0) = false := decide_eq_false k0
   clear hrq hrq2 hv hq hst
   go_enter Tryz.func77, Tryz.ntmps77
   go_wp2_with fail
   go_ret
   exact ⟨rfl, HBW.out⟩
  ·have HPL := hid (show placeX G s = none from by rw [HPX.out, if_neg (by omega), if_neg (by omega)])
   obtain rfl : -1 = r := by rw [← HR.out, goX_none HPL.out]
   obtain ⟨kk, hkk⟩ : ∃ kk, IntKind.i64.wrap ((nt : Int) + (t : Int)) = kk := ⟨_, rfl⟩
   have hkc : kk < 0 ∨ (¬ kk < 0 ∧ (rl : Int) ≤ kk) := by
    by_cases ho : (nt : Int) + (t : Int) ≤ 9223372036854775807
    ·rw [wrap_small (by omega) ho] at hkk
     exact .inr ⟨by omega, by omega⟩
    ·refine .inl ?_
     rw [← hkk]
     have hb : IntKind.i64.wrap ((nt : Int) + (t : Int)) = (nt : Int) + (t : Int) - 18446744073709551616 := by
      unfold IntKind.wrap
      simp [IntKind.signed, IntKind.bits]
      omega
     rw [hb]
     omega
   rcases hkc with hk | ⟨hk, hk2⟩
   ·have k1 : decide (kk < 0) = true := decide_eq_true hk
    clear hq hst hrq
    go_enter Tryz.func77, Tryz.ntmps77
    go_wp2_with fail
    go_ret
    exact ⟨rfl, HBW.out⟩
   ·have k1 : decide (kk < 0) = false := decide_eq_false hk
    have k2 : decide ((rl : Int) ≤ kk) = true := decide_eq_true hk2
    clear hq hst hrq
    go_enter Tryz.func77, Tryz.ntmps77
    go_wp2_with fail
    go_ret
    exact ⟨rfl, HBW.out⟩
 ·obtain ⟨t, rfl⟩ : ∃ t : Nat, s = (t : Int) := ⟨s.toNat, by omega⟩
  have y0 : ¬ (t : Int) < 0 := hs
  have y1 : decide ((t : Int) < 0) = false := decide_eq_false hs
  by_cases hq : t < nt
  ·have HPL := hid (show placeX G (t : Int) = some t from by rw [HPX.out, if_pos (by omega), if_pos (by omega), Int.toNat_natCast])
   obtain ⟨v, hv⟩ : ∃ v, R[t]? = some v := ⟨_, List.getElem?_eq_getElem (by rw [HRL.out]; omega)⟩
   obtain rfl : v = r := by rw [← HR.out, goX_at HPL.out HRX.out hv]
   obtain ⟨rb, roff, rfl, hrq2⟩ := hrq (by omega)
   have u3 := hrq2 t (by omega)
   dsimp only at u3
   rw [X14.getD_get hv] at u3
   have k1 : ¬ (rl : Int) ≤ (t : Int) := by omega
   have k2 : decide (rl ≤ t) = false := decide_eq_false (by omega)
   have k3 : (t : Int) < (rl : Int) := by omega
   have k4 : (0 : Int) ≤ (t : Int) := by omega
   have k7 : ¬ (nt : Int) ≤ (t : Int) := by omega
   have k8 : decide (nt ≤ t) = false := decide_eq_false (by omega)
   clear hrq hrq2 hv hq
   go_enter Tryz.func77, Tryz.ntmps77
   go_wp2_with fail
   go_ret
   exact ⟨rfl, HBW.out⟩
  ·have HPL := hid (show placeX G (t : Int) = none from by rw [HPX.out, if_pos (by omega), if_neg (by omega)])
   obtain rfl : -1 = r := by rw [← HR.out, goX_none HPL.out]
   by_cases hq2 : rl ≤ t
   ·have k1 : (rl : Int) ≤ (t : Int) := by omega
    have k2 : decide (rl ≤ t) = true := decide_eq_true (by omega)
    clear hq hrq
    go_enter Tryz.func77, Tryz.ntmps77
    go_wp2_with fail
    go_ret
    exact ⟨rfl, HBW.out⟩
   ·have k1 : ¬ (rl : Int) ≤ (t : Int) := by omega
    have k2 : decide (rl ≤ t) = false := decide_eq_false (by omega)
    have k7 : (nt : Int) ≤ (t : Int) := by omega
    have k8 : decide (nt ≤ t) = true := decide_eq_true (by omega)
    clear hq hrq
    go_enter Tryz.func77, Tryz.ntmps77
    go_wp2_with fail
    go_ret
    exact ⟨rfl, HBW.out⟩
end Go.Proofs.YticmnfmijdgmbaaGreatDoor

/- Plain mathematics: rounds enough come to what is closed. -/
namespace Go.Proofs.YticmnfmijdgmbaaGreatDoor.S13
abbrev cf (l : List Bool) : Nat := l.count false
section
variable {σ : Type} {Inv : σ → Prop} {pat : σ → List Bool} {us : List (σ → σ)}
structure Turns (Inv : σ → Prop) (pat : σ → List Bool) (us : List (σ → σ)) : Prop where
 keep : ∀ u ∈ us, ∀ L, Inv L → Inv (u L)
 same : ∀ u ∈ us, ∀ L L', Inv L → Inv L' → pat L = pat L' → pat (u L) = pat (u L')
 less : ∀ u ∈ us, ∀ L, Inv L → pat (u L) = pat L ∨ cf (pat (u L)) < cf (pat L)
def roundU (us : List (σ → σ)) (L : σ) : σ := us.foldl (fun L u => u L) L
theorem Turns.tail {u : σ → σ} (h : Turns Inv pat (u :: us)) : Turns Inv pat us :=
 ⟨fun v hv => h.keep v (List.mem_cons_of_mem _ hv), fun v hv => h.same v (List.mem_cons_of_mem _ hv), fun v hv => h.less v (List.mem_cons_of_mem _ hv)⟩
theorem Turns.inv : ∀ {us : List (σ → σ)}, Turns Inv pat us → ∀ L, Inv L → Inv (roundU us L)
 | [], _, _, hL => hL
 | u :: us, h, L, hL => Turns.inv (us := us) h.tail (u L) (h.keep u List.mem_cons_self L hL)
theorem Turns.round : ∀ {us : List (σ → σ)}, Turns Inv pat us → ∀ L, Inv L → (pat (roundU us L) = pat L ∧ ∀ u ∈ us, pat (u L) = pat L) ∨ cf (pat (roundU us L)) < cf (pat L)
 | [], _, L, _ => .inl ⟨rfl, fun _ h => absurd h (by simp)⟩
 | u :: us, h, L, hL => by
  have hu := h.keep u List.mem_cons_self L hL
  have ih := Turns.round (us := us) h.tail (u L) hu
  rcases h.less u List.mem_cons_self L hL with h1 | h1
  ·rcases ih with ⟨h2, h3⟩ | h2
   ·left
    refine ⟨h2.trans h1, fun v hv => ?_⟩
    rcases List.mem_cons.1 hv with rfl | hv
    ·exact h1
    ·rw [← h.same v (List.mem_cons_of_mem _ hv) (u L) L hu hL h1, h3 v hv, h1]
   ·right
    rw [h1] at h2
    exact h2
  ·right
   rcases ih with ⟨h2, _⟩ | h2
   ·show cf (pat (roundU us (u L))) < _
    rw [h2]; exact h1
   ·exact Nat.lt_trans h2 h1
theorem Turns.still (h : Turns Inv pat us) {L : σ} (hL : Inv L) (hc : ∀ u ∈ us, pat (u L) = pat L) : ∀ u ∈ us, pat (u (roundU us L)) = pat (roundU us L) := by
 have hr : pat (roundU us L) = pat L := by
  rcases h.round L hL with ⟨h1, _⟩ | h1
  ·exact h1
  ·exfalso
   have : ∀ (vs : List (σ → σ)), Turns Inv pat vs → ∀ M, Inv M → pat M = pat L → (∀ u ∈ vs, pat (u L) = pat L) → pat (roundU vs M) = pat L := by
    intro vs
    induction vs with
    | nil => exact fun _ M _ hM _ => hM
    | cons v vs ih =>
     intro ht M hI hM hcv
     exact ih ht.tail (v M) (ht.keep v List.mem_cons_self M hI) ((ht.same v List.mem_cons_self M L hI hL hM).trans (hcv v List.mem_cons_self)) (fun u hu => hcv u (List.mem_cons_of_mem _ hu))
   rw [this us h L hL rfl hc] at h1
   exact Nat.lt_irrefl _ h1
 intro u hu
 rw [h.same u hu _ L (h.inv L hL) hL hr, hc u hu, hr]
def roundsU (us : List (σ → σ)) : Nat → σ → σ
 | 0, L => L
 | n + 1, L => roundU us (roundsU us n L)
theorem Turns.invs (h : Turns Inv pat us) {L : σ} (hL : Inv L) : ∀ n, Inv (roundsU us n L)
 | 0 => hL
 | n + 1 => h.inv _ (h.invs hL n)
theorem Turns.enough (h : Turns Inv pat us) {L : σ} (hL : Inv L) : ∀ n, (∀ u ∈ us, pat (u (roundsU us n L)) = pat (roundsU us n L)) ∨ cf (pat (roundsU us n L)) + n ≤ cf (pat L)
 | 0 => .inr (Nat.le_refl _)
 | n + 1 => by
  rcases h.enough hL n with h1 | h1
  ·exact .inl (h.still (h.invs hL n) h1)
  ·rcases h.round _ (h.invs hL n) with ⟨_, h2⟩ | h2
   ·exact .inl (h.still (h.invs hL n) h2)
   ·right
    show cf (pat (roundU us (roundsU us n L))) + (n + 1) ≤ _
    omega
theorem Turns.closed (h : Turns Inv pat us) {L : σ} (hL : Inv L) {n : Nat} (hn : cf (pat L) ≤ n) : ∀ u ∈ us, pat (u (roundsU us (n + 1) L)) = pat (roundsU us (n + 1) L) := by
 rcases h.enough hL (n + 1) with h1 | h1
 ·exact h1
 ·omega
end
def usB (k : Bool) (ps : List PD) : List (List Bool → List Bool) := ps.map fun p L => stepB k L p
theorem turnsB {k : Bool} {ps : List PD} {n : Nat} (hs : ∀ p ∈ ps, p.sort.toNat < n) : Turns (fun L : List Bool => L.length = n) id (usB k ps) := by
 refine ⟨fun u hu L hL => ?_, fun u _ L L' _ _ e => by rw [show L = L' from e], fun u hu L hL => ?_⟩
 ·obtain ⟨p, _, rfl⟩ := List.mem_map.1 hu
  show (stepB k L p).length = n
  rw [stepB_length]; exact hL
 ·obtain ⟨p, hp, rfl⟩ := List.mem_map.1 hu
  rcases step_cases k L p (by have := hs p hp; have : L.length = n := hL; omega) with ⟨_, h, _⟩ | ⟨_, h⟩
  ·exact .inl h
  ·exact .inr h
theorem reach_roundsB {k : Bool} {ps : List PD} {L0 : List Bool} (n : Nat) : Reach k ps L0 (roundsU (usB k ps) n L0) := by
 induction n with
 | zero => exact .refl
 | succ n ih =>
  have : ∀ (qs : List PD), (∀ q ∈ qs, q ∈ ps) → ∀ M, Reach k ps L0 M → Reach k ps L0 (roundU (usB k qs) M) := by
   intro qs
   induction qs with
   | nil => exact fun _ M h => h
   | cons q qs ih2 => exact fun hq M h => ih2 (fun x hx => hq x (List.mem_cons_of_mem _ hx)) _ (.step h (hq q List.mem_cons_self))
  exact this ps (fun _ h => h) _ ih
theorem least_rounds {k : Bool} {ps : List PD} {n : Nat} (hs : ∀ p ∈ ps, p.sort.toNat < n) : Least k ps n (roundsU (usB k ps) (n + 1) (List.replicate n false)) := by
 refine ⟨reach_roundsB _, fun p hp ha => ?_⟩
 have hc := (turnsB (k := k) hs).closed (L := List.replicate n false) (by simp) (n := n) (by show (List.replicate n false).count false ≤ n; simp) _ (List.mem_map.2 ⟨p, hp, rfl⟩)
 have hl := (turnsB (k := k) hs).invs (L := List.replicate n false) (by simp) (n + 1)
 generalize roundsU (usB k ps) (n + 1) (List.replicate n false) = M at *
 have h1 : stepB k M p = M := hc
 have h2 := congrArg (fun l => l.getD p.sort.toNat false) h1
 simp only [stepB] at h2
 rw [List.getD_eq_getElem?_getD, List.getElem?_set_self (by have := hs p hp; have : M.length = n := hl; omega)] at h2
 rw [← h2, ha]
 simp
end Go.Proofs.YticmnfmijdgmbaaGreatDoor.S13
