/- regex's reader: a piece, given what reads ways. -/
import Derived.Test.YtochckefnjobhaaGreatDoorRn
import Derived.Test.YtochckefnjobhaaGreatDoorHb
import Derived.Defers
import Derived.Recover
import Derived.Laws.Pointers
namespace Go.Proofs.YtochckefnjobhaaGreatDoor
open Go Go.RowKit Go.Lib
set_option linter.unusedVariables false
set_option linter.unusedSimpArgs false
abbrev SP3 (K2 K3 : Nat) : Nat → Prop := fun x => K2 < x ∧ x ≠ K3
theorem rep_star {S : Nat → Prop} {w : World} {r : X3.RX} {k a b c d : Int} {kv : Value} {g : Nat} {t : TypeId} (hR : RepS S w r (nodeV k a b c d kv))
  (hg : w.heap[g]? = some (.cells #[.int .i64 k, .int .u64 a, .int .u64 b, .int .u64 c, .int .u64 d, kv] t (0, 0))) (hS : S g) : RepS S w (.star r) (nodeV 4 0 0 0 0 (.slice (some ⟨g, 0, none⟩) 1 1)) := by
 obtain ⟨c0, c1, c2, c3, c4, c5⟩ := cells6 hg
 exact .star r g 1 (.cons r [] g 0 k a b c d kv hR c0 c1 c2 c3 c4 c5 (.nil _ _)) (by omega) hS (Array.getElem?_eq_some_iff.1 hg).1
theorem repL_two {S : Nat → Prop} {w : World} {r r' : X3.RX} {k a b c d k' a' b' c' d' : Int} {kv kv' : Value} {g : Nat} {t : TypeId} (hR : RepS S w r (nodeV k a b c d kv)) (hR' : RepS S w r' (nodeV k' a' b' c' d' kv'))
  (hg : w.heap[g]? = some (.cells #[.int .i64 k, .int .u64 a, .int .u64 b, .int .u64 c, .int .u64 d, kv, .int .i64 k', .int .u64 a', .int .u64 b', .int .u64 c', .int .u64 d', kv'] t (0, 0))) : RepLS S w [r, r'] g 0 := by
 refine .cons r [r'] g 0 k a b c d kv hR ?_ ?_ ?_ ?_ ?_ ?_ (.cons r' [] g 1 k' a' b' c' d' kv' hR' ?_ ?_ ?_ ?_ ?_ ?_ (.nil _ _)) <;> (rw [Lib.cell_of_heap hg]; rfl)
structure PieceSt (b : Nat) (s : ByteArray) (w : World) (K3 : Nat) (R : X3.PR X3.RX) (j : Nat) (r : X3.RX) (v : Value) (wr : World) : Prop where
 rd : Rd b s j wr
 gr : Gr b w wr
 le : j ≤ s.size
 box : wr.heap[K3]? = some (.cells (match v with | .agg a => a | _ => #[]) 46 (0, 0))
 res : wr.heap[w.heap.size]? = some (.cells zero6 46 (0, 0))
 rep : RepS (SP3 w.heap.size K3) wr r v
 size : r.size ≤ 500
 lt : w.heap.size < K3
 goes : ∃ f, s.size - j < f ∧ X3.postX (LL s) f j r = R
set_option maxRecDepth 100000 in
set_option maxHeartbeats 4000000 in
theorem piece_any (b : Nat) (s : ByteArray) (i : Nat) (w : World) (h : Rd b s i w) (hs : s.size ≤ maxLen) (hi : i ≤ s.size) (W : Nat → X3.PR X3.RX)
  (hW : ∀ (w : World) (k : Nat), i < k → Rd b s k w → k ≤ s.size → Calls Tryz.prog 81 #[.pointer (some ⟨b, 0, none⟩)] w (RP b s w (W k)))
  (hWle : ∀ i j r, i ≤ s.size → W i = .ok r j → j ≤ s.size) (hWb : ∀ i r j, i ≤ s.size → W i = .ok r j → r.size ≤ 1000000) :
  Calls Tryz.prog 112 #[.pointer (some ⟨b, 0, none⟩)] w (RP b s w (X3.pieceX W (LL s) i)) := by
 have hbw : b < w.heap.size := (Array.getElem?_eq_some_iff.1 h).1
 have hbn : b ≠ w.heap.size := by omega
 have hne : w.heap.size ≠ b := by omega
 obtain ⟨w0, hw0⟩ : ∃ w0, w0 = w.alloc (.cells zero6 46) := ⟨_, rfl⟩
 have hg0 : Gr b w w0 := by rw [hw0]; exact gr_alloc (Gr.refl b w) _
 have h0 : Rd b s i w0 := by rw [hw0]; exact (Below.heap_alloc _ _ _ hbw).trans h
 have hz0 : w0.heap[w.heap.size]? = some (.cells zero6 46 (0, 0)) := by rw [hw0]; exact new_block _ _
 have hs0 : w0.heap.size = w.heap.size + 1 := by rw [hw0]; simp
 unfold zero6 at hw0
 have hll : (LL s).length = s.size := rfl
 have KA := hid (atom_any b s i w0 h0 hs hi W hW (fun hlt j r hj => hWle _ _ _ (by omega) hj))
 have KZ := hid (fun j (w : World) (r : X3.RX) (v : Value) (h : Rd b s j w) (hj : j ≤ s.size) (hR : Rep w0.heap.size w r v) (hb : r.size ≤ 1000000) => sized_any w0.heap.size b s j w r v h hj hR (by omega))
 have HA := hid (fun r j (h : X3.atomX W (LL s) i = .ok r j) => X3.atom_size (N := 1000000) (by decide) (fun k r j h hk => hWb k r j (by rw [hll] at hk; exact hk) h) h)
 have HP : Hid (X3.pieceX W (LL s) i = (X3.atomX W (LL s) i).bind fun r j => (X3.sizedX r j).bind fun r j => X3.postX (LL s) ((LL s).length + 1) j r) := hid rfl
 clear hW hWle hWb
 generalize X3.pieceX W (LL s) i = R at *
 cases hA : X3.atomX W (LL s) i with
 | err c =>
  rw [hA] at HP KA
  obtain rfl : R = .err c := HP.out
  go_enter Tryz.func112, Tryz.ntmps112
  go_upto_region 1 with fail
  rw [← hw0]
  clear hw0
  go_wp2_with fail
  refine KA.out.mono ?_
  rintro e w1 ⟨rfl, hg⟩
  exact ⟨rfl, rfl, World.grownBy.trans hg0 hg⟩
 | ok r j =>
  have hra := HA.out r j hA
  rw [hA] at HP KA
  have HP2 : Hid (R = (X3.sizedX r j).bind fun r j => X3.postX (LL s) ((LL s).length + 1) j r) := HP.out
  clear HP HA
  go_enter Tryz.func112, Tryz.ntmps112
  go_upto_region 1 with fail
  rw [← hw0]
  clear hw0
  go_wp2_with fail
  refine KA.out.mono ?_
  rintro e w1 ⟨v, rfl, hR, hr, hg, hj⟩
  have HR := hid hR
  obtain ⟨ka, kx, ky, kz, ku, ko, kn, kc, rfl⟩ := hR.shape
  have KZ2 := hid (KZ.out j w1 r _ hr hj HR.out hra)
  clear hR KA
  have hG1 : Gr b w w1 := World.grownBy.trans hg0 hg
  have hs1 : w.heap.size + 1 ≤ w1.heap.size := by have := hg.size; omega
  have hz1 := (hg.block w.heap.size (by omega) (fun e => hne (Option.some.inj e))).trans hz0
  by_cases h5 : 500 < r.size
  ·have e1 : X3.sizedX r j = .err 4 := by unfold X3.sizedX; rw [if_pos h5]
   rw [e1] at HP2 KZ2
   obtain rfl : R = .err 4 := HP2.out
   clear h5 HP2
   go_wp2_with fail
   refine KZ2.out.mono ?_
   rintro e w2 ⟨rfl, hg2⟩
   exact ⟨rfl, rfl, World.grownBy.trans hG1 hg2⟩
  ·have e1 : X3.sizedX r j = .ok r j := by unfold X3.sizedX; rw [if_neg h5]
   rw [e1] at HP2 KZ2
   have HP3 : Hid (X3.postX (LL s) ((LL s).length + 1) j r = R) := HP2.out.symm
   clear HP2 e1
   have HS := hid (show r.size ≤ 500 by omega)
   clear h5
   go_wp2_with fail
   refine KZ2.out.mono ?_
   rintro e w2 ⟨rfl, hR2, hr2, hg2, hj2⟩
   have hz2 := (hg2.block w.heap.size (by omega) (fun e => hne (Option.some.inj e))).trans hz1
   have hs2 : w.heap.size + 1 ≤ w2.heap.size := by have := hg2.size; omega
   have hb2' : b < w2.heap.size := by omega
   obtain ⟨w3, hw3⟩ : ∃ w3, w3 = w2.alloc (.cells #[.int .i64 ka, .int .u64 kx, .int .u64 ky, .int .u64 kz, .int .u64 ku, .slice ko kn kc] 46) := ⟨_, rfl⟩
   have hb3 : Below w2.heap.size w2 w3 := by rw [hw3]; exact (Below.refl _ _).alloc (Nat.le_refl _) _
   have hv3 : w3.heap[w2.heap.size]? = some (.cells #[.int .i64 ka, .int .u64 kx, .int .u64 ky, .int .u64 kz, .int .u64 ku, .slice ko kn kc] 46 (0, 0)) := by rw [hw3]; exact new_block _ _
   have hs3 : w3.heap.size = w2.heap.size + 1 := by rw [hw3]; simp
   have hst : PieceSt b s w w2.heap.size R j r (nodeV ka kx ky kz ku (.slice ko kn kc)) w3 :=
    ⟨(hb3.block b hb2').trans hr2, World.grownBy.trans hG1 (World.grownBy.trans hg2 (gr_below hb3)), hj, hv3, (hb3.block w.heap.size (by omega)).trans hz2,
     RepS.kept (keepS_below hb3) (hR2.monoS (fun g hg hl => ⟨by have : w0.heap.size ≤ g := hg; omega, by omega⟩)), HS.out, by omega, ⟨_, by rw [hll]; omega, HP3.out⟩⟩
   go_upto_region 2 with fail
   rw [← hw3]
   clear hw3 hb3 hv3 hR2 hr2 hg2 hz2 hz1 HP3 HS KZ2 HR hg hr hg0 h0 hz0 hA hG1 hb2' hs2 hs1
   have HST := hid hst
   have hlt3 := hst.lt
   generalize w2.heap.size = K3 at *
   clear hst
   go_loopw [] (fun wr => ∃ (j : Nat) (r : X3.RX) (ka kx ky kz ku : Int) (o : Option Addr) (n c : Nat), PieceSt b s w K3 R j r (nodeV ka kx ky kz ku (.slice o n c)) wr) (fun wr => s.size - posOf b wr)
   case atStart => exact ⟨j, r, ka, kx, ky, kz, ku, ko, kn, kc, HST.out⟩
   case round =>
    clear HST hra hj hj2
    obtain ⟨j, r, ka, kx, ky, kz, ku, o, n, c, st⟩ := hrel
    obtain ⟨f, hf, hp⟩ := st.goes
    cases f with
    | zero => omega
    | succ f =>
    have HPP := hid hp
    clear hp
    have ST := hid st
    clear st
    have hK3b : K3 ≠ b := by omega
    have hK2b : w.heap.size ≠ b := by omega
    have hbx : wr.heap[K3]? = some (.cells #[.int .i64 ka, .int .u64 kx, .int .u64 ky, .int .u64 kz, .int .u64 ku, .slice o n c] 46 (0, 0)) := ST.out.box
    have hK3r : K3 < wr.heap.size := (Array.getElem?_eq_some_iff.1 hbx).1
    have HBX := hid hbx
    clear hbx
    have hbx : wr.heap[K3]? = some (.cells #[.int .i64 ka, .int .u64 kx, .int .u64 ky, .int .u64 kz, .int .u64 ku, .slice o n c] 46 (0, 0)) := ST.out.box
    have hK3r : K3 < wr.heap.size := (Array.getElem?_eq_some_iff.1 hbx).1
    have HBX := hid hbx
    clear hbx
    have hbx : wr.heap[K3]? = some (.cells #[.int .i64 ka, .int .u64 kx, .int .u64 ky, .int .u64 kz, .int .u64 ku, .slice o n c] 46 (0, 0)) := ST.out.box
    have hK3r : K3 < wr.heap.size := (Array.getElem?_eq_some_iff.1 hbx).1
    have HBX := hid hbx
    clear hbx
    have hbx : wr.heap[K3]? = some (.cells #[.int .i64 ka, .int .u64 kx, .int .u64 ky, .int .u64 kz, .int .u64 ku, .slice o n c] 46 (0, 0)) := ST.out.box
    have hK3r : K3 < wr.heap.size := (Array.getElem?_eq_some_iff.1 hbx).1
    have HBX := hid hbx
    clear hbx
    have hbx : wr.heap[K3]? = some (.cells #[.int .i64 ka, .int .u64 kx, .int .u64 ky, .int .u64 kz, .int .u64 ku, .slice o n c] 46 (0, 0)) := ST.out.box
    have hK3r : K3 < wr.heap.size := (Array.getElem?_eq_some_iff.1 hbx).1
    have HBX := hid hbx
    clear hbx
    have kp1 := hid (passed_any b s 42 j wr ST.out.rd hs ST.out.le)
    by_cases h42 : X3.passed (LL s) j 42 = true
    ·rw [h42] at kp1
     simp only [if_true] at kp1
     have HPs : Hid (X3.passed (LL s) j 42 = true) := h42
     have hp := HPP.out
     unfold X3.postX at hp
     rw [if_pos h42] at hp
     replace HPP := hid hp
     clear hp h42
     go_wp2_with fail
     refine kp1.out.mono ?_
     rintro e w4 ⟨rfl, hr4, hg4⟩
     have hb4 := (hg4.block K3 hK3r (fun e => hK3b (Option.some.inj e))).trans HBX.out
     have hs4 := hg4.size
     obtain ⟨p0, p1, p2, p3, p4, p5⟩ := cells6 hb4
     go_wp2_with fail
     refine (star_any ka kx ky kz ku (.slice o n c) w4).mono ?_
     rintro e w5 ⟨g, hgw, rfl, hgc, hb5⟩
     clear p0 p1 p2 p3 p4 p5
     have hgA : Gr b wr w5 := World.grownBy.trans hg4 (gr_below hb5)
     have hbx5 := (hb5.block K3 (by omega)).trans hb4
     have hr5 : Rd b s (j + 1) w5 := (hb5.block b (Array.getElem?_eq_some_iff.1 hr4).1).trans hr4
     have hG5 : Gr b w w5 := World.grownBy.trans ST.out.gr hgA
     have hres5 := (hgA.block w.heap.size (by omega) (fun e => hK2b (Option.some.inj e))).trans ST.out.res
     have hrep5 : RepS (SP3 w.heap.size K3) w5 (.star r) (nodeV 4 0 0 0 0 (.slice (some ⟨g, 0, none⟩) 1 1)) := rep_star (ST.out.rep.kept (keepS_gr (b := b) (fun x => absurd x.1 (by omega)) hgA)) hgc ⟨by omega, by omega⟩
     obtain ⟨w8, e8, hz8, hg8, hs8⟩ := six hbx5 (.int .i64 4) (.int .u64 0) (.int .u64 0) (.int .u64 0) (.int .u64 0) (.slice (some ⟨g, 0, none⟩) 1 1)
     obtain ⟨y0, y1, y2, y3, y4, y5⟩ := cells6 hz8
     obtain ⟨f0, f1, f2, f3, f4, f5⟩ := frozen6 hbx5
     obtain ⟨n0, n1, n2, n3, n4, n5⟩ := cells6 hbx5
     have hK5 : K3 < w5.heap.size := (Array.getElem?_eq_some_iff.1 hbx5).1
     have hr8 : Rd b s (j + 1) w8 := (hg8.block b (Array.getElem?_eq_some_iff.1 hr5).1 (fun e => hK3b (Option.some.inj e).symm)).trans hr5
     have hG8 : Gr b w w8 := gr_fresh hG5 (Nat.le_of_lt hlt3) hg8
     have hres8 : w8.heap[w.heap.size]? = some (.cells zero6 46 (0, 0)) := (hg8.block w.heap.size (by omega) (fun e => by have := Option.some.inj e; omega)).trans hres5
     have hrep8 : RepS (SP3 w.heap.size K3) w8 (X3.RX.star r) (.agg #[.int .i64 4, .int .u64 0, .int .u64 0, .int .u64 0, .int .u64 0, .slice (some ⟨g, 0, none⟩) 1 1]) := RepS.kept (keepS_gr (b := K3) (fun x => x.2 rfl) hg8) hrep5
     have hsz8 : (X3.RX.star r).size ≤ 1000000 := by have := ST.out.size; simp only [X3.RX.size, X3.sizeL]; omega
     have KK := hid (KZ.out (j + 1) w8 (X3.RX.star r) _ hr8 (passed_le HPs.out) (hrep8.monoS (fun g hg _ => by have := hg.1; show _ ≤ g; omega)) hsz8)
     have HR8 := hid hr8
     have HRES8 := hid hres8
     have HREP8 := hid hrep8
     have HZ8 := hid hz8
     clear hr8 hres8 hrep8 hz8
     go_wp2_with fail
     refine KK.out.mono ?_
     intro e w9 h9
     by_cases h5 : 500 < (X3.RX.star r).size
     ·have e1 : X3.sizedX (X3.RX.star r) (j + 1) = .err 4 := by unfold X3.sizedX; rw [if_pos h5]
      rw [e1] at h9
      have hR := HPP.out
      rw [e1] at hR
      obtain ⟨rfl, hg9⟩ := h9
      obtain rfl : R = .err 4 := hR.symm
      exact ⟨rfl, rfl, World.grownBy.trans hG8 hg9⟩
     ·have e1 : X3.sizedX (X3.RX.star r) (j + 1) = .ok (X3.RX.star r) (j + 1) := by unfold X3.sizedX; rw [if_neg h5]
      rw [e1] at h9
      have hR := HPP.out
      rw [e1] at hR
      obtain ⟨rfl, _, hr9, hg9, hj9⟩ := h9
      have hpp := passed_le HPs.out
      have hst : PieceSt b s w K3 R (j + 1) (X3.RX.star r) (.agg #[.int .i64 4, .int .u64 0, .int .u64 0, .int .u64 0, .int .u64 0, .slice (some ⟨g, 0, none⟩) 1 1]) w9 := ⟨hr9, World.grownBy.trans hG8 hg9, hj9, (hg9.block K3 (by omega) (fun e => hK3b (Option.some.inj e))).trans HZ8.out, (hg9.block w.heap.size (by omega) (fun e => hK2b (Option.some.inj e))).trans HRES8.out, HREP8.out.kept (keepS_gr (b := b) (fun x => absurd x.1 (by omega)) hg9), by omega, hlt3, ⟨f, by omega, hR⟩⟩
      have HST := hid hst
      clear hst hR
      go_wp2_with fail
      refine ⟨⟨j + 1, _, _, _, _, _, _, _, _, _, HST.out⟩, ?_⟩
      show s.size - posOf b w9 < s.size - posOf b wr
      rw [posOf_rd hr9, posOf_rd ST.out.rd]
      omega
    ·have hn42 : X3.passed (LL s) j 42 = false := by simpa using h42
     rw [hn42] at kp1
     simp only [Bool.false_eq_true, if_false] at kp1
     have hp := HPP.out
     unfold X3.postX at hp
     rw [if_neg h42] at hp
     replace HPP := hid hp
     clear hp h42 hn42
     go_wp2_with fail
     refine kp1.out.mono ?_
     rintro e w4 ⟨rfl, hr4, hg4⟩
     have hb4 := hid ((hg4.block K3 hK3r (fun e => hK3b (Option.some.inj e))).trans HBX.out)
     have hs4 := hg4.size
     have kp2 := hid (passed_any b s 43 j w4 hr4 hs ST.out.le)
     by_cases h43 : X3.passed (LL s) j 43 = true
     ·rw [h43] at kp2
      simp only [if_true] at kp2
      have HPs : Hid (X3.passed (LL s) j 43 = true) := h43
      have hp := HPP.out
      rw [if_pos h43] at hp
      replace HPP := hid hp
      clear hp h43
      go_wp2_with fail
      refine kp2.out.mono ?_
      rintro e w5 ⟨rfl, hr5, hg5⟩
      have hb5 := (hg5.block K3 (by omega) (fun e => hK3b (Option.some.inj e))).trans hb4.out
      have hs5 := hg5.size
      have hgA : Gr b wr w5 := World.grownBy.trans hg4 hg5
      obtain ⟨p0, p1, p2, p3, p4, p5⟩ := cells6 hb5
      have hrepA := ST.out.rep.kept (keepS_gr (b := b) (fun x => absurd x.1 (by omega)) hgA)
      have hrsz := ST.out.size
      have KC := hid (clone_any w.heap.size _ w5.drew r _ (Nat.le_refl _) (by omega) ((hrepA.monoS (fun g hg _ => by have := hg.1; show _ ≤ g; omega)).kept (keep_below (Below.refl _ w5).drew)))
      go_upto_region 6 with fail
      refine region_T 6 (fun w' => w'.cell? ⟨K3, 0, none⟩ = some (.int .i64 ka) ∧ w'.cell? ⟨K3, 1, none⟩ = some (.int .u64 kx) ∧ w'.cell? ⟨K3, 2, none⟩ = some (.int .u64 ky) ∧ w'.cell? ⟨K3, 3, none⟩ = some (.int .u64 kz) ∧ w'.cell? ⟨K3, 4, none⟩ = some (.int .u64 ku) ∧ w'.cell? ⟨K3, 5, none⟩ = some (.slice o n c)) (by kernel_rfl) ⟨p0, p1, p2, p3, p4, p5⟩ (fun inv hHeld => ?_)
      refine anyT_take (i := 0) (oi := { dst := some 17, op := Op.load 46 (Operand.tmp 3), type := 46, pos := "parse.go:118", after := #[], guard := none }) (v := ?_) rfl (by kernel_rfl) (by kernel_rfl) (by kernel_rfl) (by decide) (by decide) (by kernel_rfl) (by kernel_rfl) (fun _ _ _ h => h) (Or.inl ⟨by rfl, ?_⟩) hHeld inv (fun inv => ?_)
      rotate_left
      ·intro w hSw
       try dsimp only at hSw
       go_simp
       try with_reducible rfl
      simp only [Act.put, List.setIfInBounds_toArray, List.set_cons_zero, List.set_cons_succ]
      refine anyT_take (i := 1) (oi := { dst := some 18, op := Op.load 46 (Operand.tmp 3), type := 46, pos := "parse.go:118", after := #[], guard := none }) (v := ?_) rfl (by kernel_rfl) (by kernel_rfl) (by kernel_rfl) (by decide) (by decide) (by kernel_rfl) (by kernel_rfl) (fun _ _ _ h => h) (Or.inl ⟨by rfl, ?_⟩) hHeld inv (fun inv => ?_)
      rotate_left
      ·intro w hSw
       try dsimp only at hSw
       go_simp
       try with_reducible rfl
      simp only [Act.put, List.setIfInBounds_toArray, List.set_cons_zero, List.set_cons_succ]
      refine anyT_next (i := 2) (o := { dst := some 19, op := Op.call { callee := Callee.value (Operand.func 120), args := #[Operand.tmp 18], argTypes := #[46] }, type := 46, pos := "parse.go:118", after := #[{ on := 1, ground := Ground.data }], guard := none }) (by kernel_rfl) rfl (by decide) inv (fun inv K' hK => ?_)
      go_simp
      refine KC.out.mono ?_
      rintro e w6 ⟨nv, rfl, hRn, hb6⟩
      obtain ⟨kb, xb, yb, zb, ub, ob, nb, cb, rfl⟩ := hRn.shape
      have hb6' : Below w5.heap.size w5 w6 := (Below.refl _ w5).drew.trans hb6
      have hs6 := hb6'.size
      have hx6 := (hb6'.block K3 (by omega)).trans hb5
      refine hK.out _ _ (cells6 hx6) ?_
      clear hK K'
      try simp only [Act.put, List.setIfInBounds_toArray, List.set_cons_zero, List.set_cons_succ]
      refine anyT_next (i := 3) (o := { dst := some 20, op := Op.call { callee := Callee.value (Operand.func 119), args := #[Operand.tmp 19], argTypes := #[46] }, type := 46, pos := "parse.go:118", after := #[{ on := 2, ground := Ground.data }, { on := 2, ground := Ground.chain }], guard := none }) (by kernel_rfl) rfl (by decide) inv (fun inv K' hK => ?_)
      go_simp
      refine (star_any kb xb yb zb ub (.slice ob nb cb) w6).mono ?_
      rintro e w7 ⟨g, hgw, rfl, hgc, hb7⟩
      have hs7 := hb7.size
      have hx7 := (hb7.block K3 (by omega)).trans hx6
      refine hK.out _ _ (cells6 hx7) ?_
      clear hK K'
      try simp only [Act.put, List.setIfInBounds_toArray, List.set_cons_zero, List.set_cons_succ]
      obtain ⟨w8, e7⟩ : ∃ w8, w7.alloc (.cells #[.int .i64 ka, .int .u64 kx, .int .u64 ky, .int .u64 kz, .int .u64 ku, .slice o n c, .int .i64 4, .int .u64 0, .int .u64 0, .int .u64 0, .int .u64 0, .slice (some ⟨g, 0, none⟩) 1 1] 46) = w8 := ⟨_, rfl⟩
      have hb8 : Below w7.heap.size w7 w8 := by rw [← e7]; exact (Below.refl _ _).alloc (Nat.le_refl _) _
      have hgd : w8.heap[w7.heap.size]? = some (.cells #[.int .i64 ka, .int .u64 kx, .int .u64 ky, .int .u64 kz, .int .u64 ku, .slice o n c, .int .i64 4, .int .u64 0, .int .u64 0, .int .u64 0, .int .u64 0, .slice (some ⟨g, 0, none⟩) 1 1] 46 (0, 0)) := by rw [← e7]; exact new_block _ _
      have hs8' : w8.heap.size = w7.heap.size + 1 := by rw [← e7]; simp
      have hbx5 := (hb8.block K3 (by omega)).trans hx7
      have hglt : g < w7.heap.size := (Array.getElem?_eq_some_iff.1 hgc).1
      have hb58 : Below w5.heap.size w5 w8 := hb6'.trans ((hb7.mono hs6).trans (hb8.mono (by omega)))
      have hgC : Gr b wr w8 := World.grownBy.trans hgA (gr_below hb58)
      have hr8' : Rd b s (j + 1) w8 := (hb58.block b (Array.getElem?_eq_some_iff.1 hr5).1).trans hr5
      have hG5 : Gr b w w8 := World.grownBy.trans ST.out.gr hgC
      have hres5 := (hgC.block w.heap.size (by omega) (fun e => hK2b (Option.some.inj e))).trans ST.out.res
      have hst7 : RepS (SP3 w.heap.size K3) w7 (.star r) (nodeV 4 0 0 0 0 (.slice (some ⟨g, 0, none⟩) 1 1)) := rep_star ((hRn.kept (keep_below hb7)).monoS (fun g hg _ => by have h : w5.heap.size ≤ g := hg; exact ⟨by omega, by omega⟩)) hgc ⟨by omega, by omega⟩
      have hrep5 : RepS (SP3 w.heap.size K3) w8 (.cat [r, .star r]) (nodeV 2 0 0 0 0 (.slice (some ⟨w7.heap.size, 0, none⟩) 2 2)) := .cat [r, .star r] w7.heap.size 2 (repL_two (hrepA.kept (keepS_below hb58)) (hst7.kept (keepS_below hb8)) hgd) (by simp) ⟨by omega, by omega⟩ (by omega) (by simp)
      clear hgd hgc hRn KC hb6 hb7 hb8 hb6'
      refine anyT_next (i := 4) (o := { dst := some 21, op := Op.buildSlice 44 2 #[(0, Operand.tmp 17), (1, Operand.tmp 20)], type := 44, pos := "parse.go:118", after := #[{ on := 0, ground := Ground.data }, { on := 3, ground := Ground.data }], guard := none }) (by kernel_rfl) rfl (by decide) inv (fun inv K' hK => ?_)
      go_simp
      refine hK.out _ _ (cells6 hbx5) ?_
      clear hK K'
      try simp only [Act.put, List.setIfInBounds_toArray, List.set_cons_zero, List.set_cons_succ]
      refine anyT_next (i := 5) (o := { dst := some 22, op := Op.build 46 #[(0, Operand.const (Value.int IntKind.i64 2)), (2, Operand.tmp 21)], type := 46, pos := "parse.go:118", after := #[{ on := 4, ground := Ground.data }], guard := none }) (by kernel_rfl) rfl (by decide) inv (fun inv K' hK => ?_)
      go_simp
      refine hK.out _ _ (cells6 hbx5) ?_
      clear hK K'
      try simp only [Act.put, List.setIfInBounds_toArray, List.set_cons_zero, List.set_cons_succ]
      obtain ⟨w10, e8, hz8, hg8, hs8⟩ := six hbx5 (.int .i64 2) (.int .u64 0) (.int .u64 0) (.int .u64 0) (.int .u64 0) (.slice (some ⟨w7.heap.size, 0, none⟩) 2 2)
      obtain ⟨y0, y1, y2, y3, y4, y5⟩ := cells6 hz8
      obtain ⟨f0, f1, f2, f3, f4, f5⟩ := frozen6 hbx5
      obtain ⟨n0, n1, n2, n3, n4, n5⟩ := cells6 hbx5
      have hK5 : K3 < w8.heap.size := (Array.getElem?_eq_some_iff.1 hbx5).1
      have hr8 : Rd b s (j + 1) w10 := (hg8.block b (Array.getElem?_eq_some_iff.1 hr8').1 (fun e => hK3b (Option.some.inj e).symm)).trans hr8'
      have hG8 : Gr b w w10 := gr_fresh hG5 (Nat.le_of_lt hlt3) hg8
      have hres8 : w10.heap[w.heap.size]? = some (.cells zero6 46 (0, 0)) := (hg8.block w.heap.size (by omega) (fun e => by have := Option.some.inj e; omega)).trans hres5
      have hrep8 : RepS (SP3 w.heap.size K3) w10 (X3.RX.cat [r, .star r]) (.agg #[.int .i64 2, .int .u64 0, .int .u64 0, .int .u64 0, .int .u64 0, .slice (some ⟨w7.heap.size, 0, none⟩) 2 2]) := RepS.kept (keepS_gr (b := K3) (fun x => x.2 rfl) hg8) hrep5
      have hsz8 : (X3.RX.cat [r, .star r]).size ≤ 1000000 := by have := ST.out.size; simp only [X3.RX.size, X3.sizeL]; omega
      have KK := hid (KZ.out (j + 1) w10 (X3.RX.cat [r, .star r]) _ hr8 (passed_le HPs.out) (hrep8.monoS (fun g hg _ => by have := hg.1; show _ ≤ g; omega)) hsz8)
      have HR8 := hid hr8
      have HRES8 := hid hres8
      have HREP8 := hid hrep8
      have HZ8 := hid hz8
      clear hr8 hres8 hrep8 hz8
      refine anyT_one (i := 6) (o := { dst := none, op := Op.store 46 (Operand.tmp 3) (Operand.tmp 22), type := 0, pos := "parse.go:118", after := #[{ on := 5, ground := Ground.data }, { on := 3, ground := Ground.chain }, { on := 0, ground := Ground.phase }, { on := 1, ground := Ground.phase }, { on := 2, ground := Ground.phase }, { on := 3, ground := Ground.phase }, { on := 4, ground := Ground.phase }, { on := 5, ground := Ground.phase }], guard := none }) (by kernel_rfl) rfl (fun K' hK => ?_)
      go_simp
      refine hK.out _ _ (fun h => absurd h (by decide)) ?_
      clear hK K'
      try simp only [Act.put, List.setIfInBounds_toArray, List.set_cons_zero, List.set_cons_succ]
      refine anyT_done (by kernel_rfl) ?_ _
      go_wp2_with fail
      refine KK.out.mono ?_
      intro e w9 h9
      by_cases h5 : 500 < (X3.RX.cat [r, .star r]).size
      ·have e1 : X3.sizedX (X3.RX.cat [r, .star r]) (j + 1) = .err 4 := by unfold X3.sizedX; rw [if_pos h5]
       rw [e1] at h9
       have hR := HPP.out
       rw [e1] at hR
       obtain ⟨rfl, hg9⟩ := h9
       obtain rfl : R = .err 4 := hR.symm
       exact ⟨rfl, rfl, World.grownBy.trans hG8 hg9⟩
      ·have e1 : X3.sizedX (X3.RX.cat [r, .star r]) (j + 1) = .ok (X3.RX.cat [r, .star r]) (j + 1) := by unfold X3.sizedX; rw [if_neg h5]
       rw [e1] at h9
       have hR := HPP.out
       rw [e1] at hR
       obtain ⟨rfl, _, hr9, hg9, hj9⟩ := h9
       have hpp := passed_le HPs.out
       have hst : PieceSt b s w K3 R (j + 1) (X3.RX.cat [r, .star r]) (.agg #[.int .i64 2, .int .u64 0, .int .u64 0, .int .u64 0, .int .u64 0, .slice (some ⟨w7.heap.size, 0, none⟩) 2 2]) w9 := ⟨hr9, World.grownBy.trans hG8 hg9, hj9, (hg9.block K3 (by omega) (fun e => hK3b (Option.some.inj e))).trans HZ8.out, (hg9.block w.heap.size (by omega) (fun e => hK2b (Option.some.inj e))).trans HRES8.out, HREP8.out.kept (keepS_gr (b := b) (fun x => absurd x.1 (by omega)) hg9), by omega, hlt3, ⟨f, by omega, hR⟩⟩
       have HST := hid hst
       clear hst hR
       go_wp2_with fail
       refine ⟨⟨j + 1, _, _, _, _, _, _, _, _, _, HST.out⟩, ?_⟩
       show s.size - posOf b w9 < s.size - posOf b wr
       rw [posOf_rd hr9, posOf_rd ST.out.rd]
       omega
     ·have hn43 : X3.passed (LL s) j 43 = false := by simpa using h43
      rw [hn43] at kp2
      simp only [Bool.false_eq_true, if_false] at kp2
      have hp := HPP.out
      rw [if_neg h43] at hp
      replace HPP := hid hp
      clear hp h43 hn43
      go_wp2_with fail
      refine kp2.out.mono ?_
      rintro e w5 ⟨rfl, hr5, hg5⟩
      have hb5 := hid ((hg5.block K3 (by omega) (fun e => hK3b (Option.some.inj e))).trans hb4.out)
      have hs5 := hg5.size
      have hgA : Gr b wr w5 := World.grownBy.trans hg4 hg5
      have kp3 := hid (passed_any b s 63 j w5 hr5 hs ST.out.le)
      by_cases h63 : X3.passed (LL s) j 63 = true
      ·rw [h63] at kp3
       simp only [if_true] at kp3
       have HPs : Hid (X3.passed (LL s) j 63 = true) := h63
       have hp := HPP.out
       rw [if_pos h63] at hp
       replace HPP := hid hp
       clear hp h63
       go_wp2_with fail
       refine kp3.out.mono ?_
       rintro e w6 ⟨rfl, hr6, hg6⟩
       have hb6 := (hg6.block K3 (by omega) (fun e => hK3b (Option.some.inj e))).trans hb5.out
       have hs6 := hg6.size
       have hgB : Gr b wr w6 := World.grownBy.trans hgA hg6
       obtain ⟨p0, p1, p2, p3, p4, p5⟩ := cells6 hb6
       obtain ⟨w7, e7⟩ : ∃ w7, w6.alloc (.cells #[.int .i64 ka, .int .u64 kx, .int .u64 ky, .int .u64 kz, .int .u64 ku, .slice o n c, .int .i64 0, .int .u64 0, .int .u64 0, .int .u64 0, .int .u64 0, noKids] 46) = w7 := ⟨_, rfl⟩
       have hb7 : Below w6.heap.size w6 w7 := by rw [← e7]; exact (Below.refl _ _).alloc (Nat.le_refl _) _
       have hgc : w7.heap[w6.heap.size]? = some (.cells #[.int .i64 ka, .int .u64 kx, .int .u64 ky, .int .u64 kz, .int .u64 ku, .slice o n c, .int .i64 0, .int .u64 0, .int .u64 0, .int .u64 0, .int .u64 0, noKids] 46 (0, 0)) := by rw [← e7]; exact new_block _ _
       have hs7 : w7.heap.size = w6.heap.size + 1 := by rw [← e7]; simp
       have hgC : Gr b wr w7 := World.grownBy.trans hgB (gr_below hb7)
       have hbx5 := (hb7.block K3 (by omega)).trans hb6
       have hr5 : Rd b s (j + 1) w7 := (hb7.block b (Array.getElem?_eq_some_iff.1 hr6).1).trans hr6
       have hG5 : Gr b w w7 := World.grownBy.trans ST.out.gr hgC
       have hres5 := (hgC.block w.heap.size (by omega) (fun e => hK2b (Option.some.inj e))).trans ST.out.res
       have hrep5 : RepS (SP3 w.heap.size K3) w7 (.alt [r, .empty]) (nodeV 3 0 0 0 0 (.slice (some ⟨w6.heap.size, 0, none⟩) 2 2)) := .alt [r, .empty] w6.heap.size 2 (repL_two (ST.out.rep.kept (keepS_gr (b := b) (fun x => absurd x.1 (by omega)) hgC)) .empty hgc) (by simp) ⟨by omega, by omega⟩ (by omega) (by simp)
       have HGC := hid hgc
       clear hgc
       obtain ⟨w8, e8, hz8, hg8, hs8⟩ := six hbx5 (.int .i64 3) (.int .u64 0) (.int .u64 0) (.int .u64 0) (.int .u64 0) (.slice (some ⟨w6.heap.size, 0, none⟩) 2 2)
       obtain ⟨y0, y1, y2, y3, y4, y5⟩ := cells6 hz8
       obtain ⟨f0, f1, f2, f3, f4, f5⟩ := frozen6 hbx5
       obtain ⟨n0, n1, n2, n3, n4, n5⟩ := cells6 hbx5
       have hK5 : K3 < w7.heap.size := (Array.getElem?_eq_some_iff.1 hbx5).1
       have hr8 : Rd b s (j + 1) w8 := (hg8.block b (Array.getElem?_eq_some_iff.1 hr5).1 (fun e => hK3b (Option.some.inj e).symm)).trans hr5
       have hG8 : Gr b w w8 := gr_fresh hG5 (Nat.le_of_lt hlt3) hg8
       have hres8 : w8.heap[w.heap.size]? = some (.cells zero6 46 (0, 0)) := (hg8.block w.heap.size (by omega) (fun e => by have := Option.some.inj e; omega)).trans hres5
       have hrep8 : RepS (SP3 w.heap.size K3) w8 (X3.RX.alt [r, .empty]) (.agg #[.int .i64 3, .int .u64 0, .int .u64 0, .int .u64 0, .int .u64 0, .slice (some ⟨w6.heap.size, 0, none⟩) 2 2]) := RepS.kept (keepS_gr (b := K3) (fun x => x.2 rfl) hg8) hrep5
       have hsz8 : (X3.RX.alt [r, .empty]).size ≤ 1000000 := by have := ST.out.size; simp only [X3.RX.size, X3.sizeL]; omega
       have KK := hid (KZ.out (j + 1) w8 (X3.RX.alt [r, .empty]) _ hr8 (passed_le HPs.out) (hrep8.monoS (fun g hg _ => by have := hg.1; show _ ≤ g; omega)) hsz8)
       have HR8 := hid hr8
       have HRES8 := hid hres8
       have HREP8 := hid hrep8
       have HZ8 := hid hz8
       clear hr8 hres8 hrep8 hz8
       go_wp2_with fail
       refine KK.out.mono ?_
       intro e w9 h9
       by_cases h5 : 500 < (X3.RX.alt [r, .empty]).size
       ·have e1 : X3.sizedX (X3.RX.alt [r, .empty]) (j + 1) = .err 4 := by unfold X3.sizedX; rw [if_pos h5]
        rw [e1] at h9
        have hR := HPP.out
        rw [e1] at hR
        obtain ⟨rfl, hg9⟩ := h9
        obtain rfl : R = .err 4 := hR.symm
        exact ⟨rfl, rfl, World.grownBy.trans hG8 hg9⟩
       ·have e1 : X3.sizedX (X3.RX.alt [r, .empty]) (j + 1) = .ok (X3.RX.alt [r, .empty]) (j + 1) := by unfold X3.sizedX; rw [if_neg h5]
        rw [e1] at h9
        have hR := HPP.out
        rw [e1] at hR
        obtain ⟨rfl, _, hr9, hg9, hj9⟩ := h9
        have hpp := passed_le HPs.out
        have hst : PieceSt b s w K3 R (j + 1) (X3.RX.alt [r, .empty]) (.agg #[.int .i64 3, .int .u64 0, .int .u64 0, .int .u64 0, .int .u64 0, .slice (some ⟨w6.heap.size, 0, none⟩) 2 2]) w9 := ⟨hr9, World.grownBy.trans hG8 hg9, hj9, (hg9.block K3 (by omega) (fun e => hK3b (Option.some.inj e))).trans HZ8.out, (hg9.block w.heap.size (by omega) (fun e => hK2b (Option.some.inj e))).trans HRES8.out, HREP8.out.kept (keepS_gr (b := b) (fun x => absurd x.1 (by omega)) hg9), by omega, hlt3, ⟨f, by omega, hR⟩⟩
        have HST := hid hst
        clear hst hR
        go_wp2_with fail
        refine ⟨⟨j + 1, _, _, _, _, _, _, _, _, _, HST.out⟩, ?_⟩
        show s.size - posOf b w9 < s.size - posOf b wr
        rw [posOf_rd hr9, posOf_rd ST.out.rd]
        omega
      ·have hn63 : X3.passed (LL s) j 63 = false := by simpa using h63
       rw [hn63] at kp3
       simp only [Bool.false_eq_true, if_false] at kp3
       have hp := HPP.out
       rw [if_neg h63] at hp
       replace HPP := hid hp
       clear hp h63 hn63
       go_wp2_with fail
       refine kp3.out.mono ?_
       rintro e w6 ⟨rfl, hr6, hg6⟩
       have hb6 := (hg6.block K3 (by omega) (fun e => hK3b (Option.some.inj e))).trans hb5.out
       have hs6 := hg6.size
       have hgB : Gr b wr w6 := World.grownBy.trans hgA hg6
       have hres6 := (hgB.block w.heap.size (by omega) (fun e => hK2b (Option.some.inj e))).trans ST.out.res
       unfold zero6 at hres6
       obtain ⟨p0, p1, p2, p3, p4, p5⟩ := cells6 hb6
       obtain ⟨n0, n1, n2, n3, n4, n5⟩ := cells6 hres6
       obtain ⟨f0, f1, f2, f3, f4, f5⟩ := frozen6 hres6
       obtain ⟨w8, e8, hz8, hg8, hs8⟩ := six hres6 (.int .i64 ka) (.int .u64 kx) (.int .u64 ky) (.int .u64 kz) (.int .u64 ku) (.slice o n c)
       have hG6 : Gr b w w6 := World.grownBy.trans ST.out.gr hgB
       have hrep6 := ST.out.rep.kept (keepS_gr (b := b) (fun x => absurd x.1 (by omega)) hgB)
       have hrep8 : Rep w.heap.size w8 r _ := (hrep6.kept (keepS_gr (b := w.heap.size) (fun x => absurd x.1 (by omega)) hg8)).monoS (fun g hg _ => by have := hg.1; show _ ≤ g; omega)
       have hr8 : Rd b s j w8 := (hg8.block b (Array.getElem?_eq_some_iff.1 hr6).1 (fun e => hK2b (Option.some.inj e).symm)).trans hr6
       have hG8 : Gr b w w8 := gr_fresh hG6 (Nat.le_refl _) hg8
       have HR8 := hid hr8
       have HREP8 := hid hrep8
       clear hr8 hrep8
       go_wp2_with fail
       obtain ⟨y0, y1, y2, y3, y4, y5⟩ := cells6 hz8
       refine bodyPost_ret (v := .agg #[.int .i64 ka, .int .u64 kx, .int .u64 ky, .int .u64 kz, .int .u64 ku, .slice o n c]) (by simp [results, Tryz.results112, go_sem, y0, y1, y2, y3, y4, y5]) rfl ?_
       rw [← HPP.out]
       exact ⟨_, rfl, HREP8.out, HR8.out, hG8, ST.out.le⟩
end Go.Proofs.YtochckefnjobhaaGreatDoor
namespace Go.Proofs.YtochckefnjobhaaGreatDoor
open Go Go.RowKit Go.Lib
set_option linter.unusedVariables false
set_option linter.unusedSimpArgs false
theorem row_one {B : Nat} {w' : World} {r : X3.RX} {ka kx ky kz ku : Int} {kv : Value} {g : Nat} (hB : B ≤ g) (hR : RepS (fun x => B ≤ x ∧ x ≠ g) w' r (nodeV ka kx ky kz ku kv))
  (hg : w'.heap[g]? = some (.cells #[.int .i64 ka, .int .u64 kx, .int .u64 ky, .int .u64 kz, .int .u64 ku, kv] 46 (0, 0))) : RowOf B w' (.slice (some ⟨g, 0, none⟩) 1 1) [r] := by
 refine ⟨[nodeV ka kx ky kz ku kv], .cons _ _ _ _ (hR.monoS (fun x hx _ => ⟨hx.1, fun e => hx.2 (Option.some.inj e)⟩)) .nil, rfl, .inr ⟨g, 1, _, rfl, hB, hg, Nat.le_refl _, by decide, rfl, rfl⟩⟩
theorem endW_at {s : ByteArray} {i : Nat} (hi : i < s.size) : X3.endW (LL s) i = decide ((s[i]'hi).toNat = 124 ∨ (s[i]'hi).toNat = 41) := by
 unfold X3.endW; rw [ll_at hi]
theorem endW_end (s : ByteArray) : X3.endW (LL s) s.size = true := by
 unfold X3.endW; rw [ll_end]
structure WaySt (b : Nat) (s : ByteArray) (w : World) (W : Nat → X3.PR X3.RX) (R : X3.PR (List X3.RX)) (i j : Nat) (L : List X3.RX) (a : Value) (wr : World) : Prop where
 rd : Rd b s j wr
 gr : Gr b w wr
 le : j ≤ s.size
 ge : i ≤ j
 res : wr.heap[w.heap.size]? = some (.cells zero6 46 (0, 0))
 row : RowOf (w.heap.size + 1) wr a L
 few : L.length ≤ j
 goes : ∃ f, s.size - j < f ∧ X3.wayL W (LL s) f j L = R
set_option maxRecDepth 100000 in
set_option maxHeartbeats 8000000 in
theorem way_any (b : Nat) (s : ByteArray) (i : Nat) (w : World) (h : Rd b s i w) (hs : s.size ≤ 1000) (hi : i ≤ s.size) (W : Nat → X3.PR X3.RX)
  (hW : ∀ (w : World) (k : Nat), i < k → Rd b s k w → k ≤ s.size → Calls Tryz.prog 81 #[.pointer (some ⟨b, 0, none⟩)] w (RP b s w (W k)))
  (hWg : X3.Goes (LL s) W) (hWb : ∀ i r j, i ≤ s.size → W i = .ok r j → r.size ≤ 1000000) :
  Calls Tryz.prog 103 #[.pointer (some ⟨b, 0, none⟩)] w (RP b s w (X3.wayX W (LL s) i)) := by
 have hbw : b < w.heap.size := (Array.getElem?_eq_some_iff.1 h).1
 have hbn : b ≠ w.heap.size := by omega
 have hne : w.heap.size ≠ b := by omega
 have hsm : s.size ≤ maxLen := by unfold maxLen; omega
 obtain ⟨w0, hw0⟩ : ∃ w0, w0 = w.alloc (.cells zero6 46) := ⟨_, rfl⟩
 have hg0 : Gr b w w0 := by rw [hw0]; exact gr_alloc (Gr.refl b w) _
 have h0 : Rd b s i w0 := by rw [hw0]; exact (Below.heap_alloc _ _ _ hbw).trans h
 have hz0 : w0.heap[w.heap.size]? = some (.cells zero6 46 (0, 0)) := by rw [hw0]; exact new_block _ _
 have hs0 : w0.heap.size = w.heap.size + 1 := by rw [hw0]; simp
 unfold zero6 at hw0
 have hll : (LL s).length = s.size := rfl
 have KP := hid (fun j (w : World) (hj : i ≤ j) (h : Rd b s j w) (hle : j ≤ s.size) => piece_any b s j w h hsm hle W (fun w k hk => hW w k (by omega)) (fun i j r hi hw => (hWg i j r hi hw).2) hWb)
 have HAT := hid (fun j j' r (h : X3.pieceX W (LL s) j = .ok r j') => X3.piece_at hWg h)
 have HRR : Hid (X3.wayX W (LL s) i = (X3.wayL W (LL s) ((LL s).length + 1) i []).bind fun l j => .ok (X3.mkCat l) j) := hid rfl
 generalize X3.wayX W (LL s) i = RR at *
 have hst : WaySt b s w W (X3.wayL W (LL s) ((LL s).length + 1) i []) i i [] (.slice none 0 0) w0 := ⟨h0, hg0, hi, Nat.le_refl _, hz0, RowOf.nil _ _, by simp, ⟨_, by rw [hll]; omega, rfl⟩⟩
 generalize X3.wayL W (LL s) ((LL s).length + 1) i [] = R at *
 have HST := hid hst
 clear hst hW hWg hWb
 go_enter Tryz.func103, Tryz.ntmps103
 go_upto_region 1 with fail
 rw [← hw0]
 clear hw0 h0 hg0 hz0
 go_wp2_with fail
 go_loopw [3] (fun a wr => ∃ (j : Nat) (L : List X3.RX), WaySt b s w W R i j L a wr) (fun _ wr => s.size - posOf b wr)
 case atStart => exact ⟨i, [], HST.out⟩
 case round =>
  clear HST
  obtain ⟨j, L, st⟩ := hrel
  obtain ⟨f, hf, hp⟩ := st.goes
  cases f with
  | zero => omega
  | succ f =>
  have HPP := hid hp
  clear hp
  obtain ⟨so, sc, rfl⟩ := st.row.sl
  have ST := hid st
  clear st
  have hLs : L.length ≤ 1000 := by have := ST.out.few; have := ST.out.le; omega
  unfold X3.wayL at HPP
  by_cases hlt : j < s.size
  ·have kpk := hid (peek_mid b s j wr ST.out.rd hsm hlt)
   have hE := endW_at hlt
   generalize (s[j]'hlt).toNat = x at *
   by_cases c124 : x = 124
   ·subst c124
    have HE : Hid (X3.endW (LL s) j = true) := hid (by rw [hE]; simp)
    rw [HE.out, if_pos rfl] at HPP
    clear hE HE
    go_wp2_with fail
    refine kpk.out.mono ?_
    rintro e w4 ⟨rfl, hb4, hh4⟩
    have hg4 : Gr b wr w4 := gr_below hb4
    have hr4 : Rd b s j w4 := by unfold Rd; rw [hh4]; exact ST.out.rd
    have hG4 : Gr b w w4 := World.grownBy.trans ST.out.gr hg4
    have hres4 := (hg4.block w.heap.size (by have := (Array.getElem?_eq_some_iff.1 ST.out.res).1; omega) (fun e => hne (Option.some.inj e))).trans ST.out.res
    have HRow := hid (ST.out.row.gr (b := b) (by omega) hg4)
    have hRR : RR = .ok (X3.mkCat L) j := by rw [HRR.out, ← HPP.out]; rfl
    subst hRR
    unfold zero6 at hres4
    obtain ⟨n0, n1, n2, n3, n4, n5⟩ := cells6 hres4
    obtain ⟨f0, f1, f2, f3, f4, f5⟩ := frozen6 hres4
    have hjl := ST.out.le
    clear HPP HRR KP HAT
    match L, hLs, HRow with
    | [], _, HRow =>
     skip
     obtain ⟨w8, e8, hz8, hg8, hs8⟩ := six hres4 (.int .i64 0) (.int .u64 0) (.int .u64 0) (.int .u64 0) (.int .u64 0) (.slice none 0 0)
     have hr8 : Rd b s j w8 := (hg8.block b (Array.getElem?_eq_some_iff.1 hr4).1 (fun e => hbn (Option.some.inj e))).trans hr4
     have hG8 : Gr b w w8 := gr_fresh hG4 (Nat.le_refl _) hg8
     have HR8 := hid hr8
     clear hr8
     go_wp2_with fail
     obtain ⟨y0, y1, y2, y3, y4, y5⟩ := cells6 hz8
     refine bodyPost_ret (v := .agg #[.int .i64 0, .int .u64 0, .int .u64 0, .int .u64 0, .int .u64 0, .slice none 0 0]) (by simp [results, Tryz.results103, go_sem, y0, y1, y2, y3, y4, y5]) rfl ?_
     exact ⟨_, rfl, Rep.empty, HR8.out, hG8, hjl⟩
    | [r], _, HRow =>
     obtain ⟨g, cap, hv, hBg, hgw, hcap, hrep⟩ := HRow.out.shape (by simp)
     obtain ⟨rfl, _, rfl⟩ : so = some ⟨g, 0, none⟩ ∧ True ∧ sc = cap := by injection hv with h1 h2 h3; exact ⟨h1, trivial, h3⟩
     obtain ⟨ka, kx, ky, kz, ku, kv, hR, c0, c1, c2, c3, c4, c5⟩ := RepLS.at_ hrep 0 (by simp)
     obtain ⟨ko, kn, kc, rfl⟩ := hR.slice
     simp only [Nat.zero_add, Nat.zero_mul] at c0 c1 c2 c3 c4 c5
     simp only [List.length_cons, List.length_nil, Nat.zero_add] at hcap
     have HR := hid (show Rep (w.heap.size + 1) w4 r _ from hR)
     clear hR hv hrep
     obtain ⟨w8, e8, hz8, hg8, hs8⟩ := six hres4 (.int .i64 ka) (.int .u64 kx) (.int .u64 ky) (.int .u64 kz) (.int .u64 ku) (.slice ko kn kc)
     have hr8 : Rd b s j w8 := (hg8.block b (Array.getElem?_eq_some_iff.1 hr4).1 (fun e => hbn (Option.some.inj e))).trans hr4
     have hG8 : Gr b w w8 := gr_fresh hG4 (Nat.le_refl _) hg8
     have HR8 := hid hr8
     clear hr8
     go_wp2_with fail
     obtain ⟨y0, y1, y2, y3, y4, y5⟩ := cells6 hz8
     refine bodyPost_ret (v := .agg #[.int .i64 ka, .int .u64 kx, .int .u64 ky, .int .u64 kz, .int .u64 ku, .slice ko kn kc]) (by simp [results, Tryz.results103, go_sem, y0, y1, y2, y3, y4, y5]) rfl ?_
     exact ⟨_, rfl, (HR.out.kept (keep_gr (b := w.heap.size) (by omega) hg8)).mono (by omega), HR8.out, hG8, hjl⟩
    | r1 :: r2 :: L, hLs, HRow =>
     obtain ⟨g, cap, hv, hBg, hgw, hcap, hrep⟩ := HRow.out.shape (by simp)
     obtain ⟨rfl, _, rfl⟩ : so = some ⟨g, 0, none⟩ ∧ True ∧ sc = cap := by injection hv with h1 h2 h3; exact ⟨h1, trivial, h3⟩
     have HR := hid (show Rep (w.heap.size + 1) w4 (.cat (r1 :: r2 :: L)) (nodeV 2 0 0 0 0 (.slice (some ⟨g, 0, none⟩) (r1 :: r2 :: L).length sc)) from .cat _ g sc hrep hcap hBg hgw (by simp))
     clear hv hrep
     have t0 : (((r1 :: r2 :: L).length : Int) == 0) = false := by simp; omega
     have t1 : (((r1 :: r2 :: L).length : Int) == 1) = false := by simp; omega
     generalize (r1 :: r2 :: L).length = n at *
     obtain ⟨w8, e8, hz8, hg8, hs8⟩ := six hres4 (.int .i64 2) (.int .u64 0) (.int .u64 0) (.int .u64 0) (.int .u64 0) (.slice (some ⟨g, 0, none⟩) n sc)
     have hr8 : Rd b s j w8 := (hg8.block b (Array.getElem?_eq_some_iff.1 hr4).1 (fun e => hbn (Option.some.inj e))).trans hr4
     have hG8 : Gr b w w8 := gr_fresh hG4 (Nat.le_refl _) hg8
     have HR8 := hid hr8
     clear hr8
     go_wp2_with fail
     obtain ⟨y0, y1, y2, y3, y4, y5⟩ := cells6 hz8
     refine bodyPost_ret (v := .agg #[.int .i64 2, .int .u64 0, .int .u64 0, .int .u64 0, .int .u64 0, .slice (some ⟨g, 0, none⟩) n sc]) (by simp [results, Tryz.results103, go_sem, y0, y1, y2, y3, y4, y5]) rfl ?_
     exact ⟨_, rfl, (HR.out.kept (keep_gr (b := w.heap.size) (by omega) hg8)).mono (by omega), HR8.out, hG8, hjl⟩
   by_cases c41 : x = 41
   ·subst c41
    have HE : Hid (X3.endW (LL s) j = true) := hid (by rw [hE]; simp)
    rw [HE.out, if_pos rfl] at HPP
    clear hE HE
    go_wp2_with fail
    refine kpk.out.mono ?_
    rintro e w4 ⟨rfl, hb4, hh4⟩
    have hg4 : Gr b wr w4 := gr_below hb4
    have hr4 : Rd b s j w4 := by unfold Rd; rw [hh4]; exact ST.out.rd
    have hG4 : Gr b w w4 := World.grownBy.trans ST.out.gr hg4
    have hres4 := (hg4.block w.heap.size (by have := (Array.getElem?_eq_some_iff.1 ST.out.res).1; omega) (fun e => hne (Option.some.inj e))).trans ST.out.res
    have HRow := hid (ST.out.row.gr (b := b) (by omega) hg4)
    have hRR : RR = .ok (X3.mkCat L) j := by rw [HRR.out, ← HPP.out]; rfl
    subst hRR
    unfold zero6 at hres4
    obtain ⟨n0, n1, n2, n3, n4, n5⟩ := cells6 hres4
    obtain ⟨f0, f1, f2, f3, f4, f5⟩ := frozen6 hres4
    have hjl := ST.out.le
    clear HPP HRR KP HAT
    match L, hLs, HRow with
    | [], _, HRow =>
     skip
     obtain ⟨w8, e8, hz8, hg8, hs8⟩ := six hres4 (.int .i64 0) (.int .u64 0) (.int .u64 0) (.int .u64 0) (.int .u64 0) (.slice none 0 0)
     have hr8 : Rd b s j w8 := (hg8.block b (Array.getElem?_eq_some_iff.1 hr4).1 (fun e => hbn (Option.some.inj e))).trans hr4
     have hG8 : Gr b w w8 := gr_fresh hG4 (Nat.le_refl _) hg8
     have HR8 := hid hr8
     clear hr8
     go_wp2_with fail
     obtain ⟨y0, y1, y2, y3, y4, y5⟩ := cells6 hz8
     refine bodyPost_ret (v := .agg #[.int .i64 0, .int .u64 0, .int .u64 0, .int .u64 0, .int .u64 0, .slice none 0 0]) (by simp [results, Tryz.results103, go_sem, y0, y1, y2, y3, y4, y5]) rfl ?_
     exact ⟨_, rfl, Rep.empty, HR8.out, hG8, hjl⟩
    | [r], _, HRow =>
     obtain ⟨g, cap, hv, hBg, hgw, hcap, hrep⟩ := HRow.out.shape (by simp)
     obtain ⟨rfl, _, rfl⟩ : so = some ⟨g, 0, none⟩ ∧ True ∧ sc = cap := by injection hv with h1 h2 h3; exact ⟨h1, trivial, h3⟩
     obtain ⟨ka, kx, ky, kz, ku, kv, hR, c0, c1, c2, c3, c4, c5⟩ := RepLS.at_ hrep 0 (by simp)
     obtain ⟨ko, kn, kc, rfl⟩ := hR.slice
     simp only [Nat.zero_add, Nat.zero_mul] at c0 c1 c2 c3 c4 c5
     simp only [List.length_cons, List.length_nil, Nat.zero_add] at hcap
     have HR := hid (show Rep (w.heap.size + 1) w4 r _ from hR)
     clear hR hv hrep
     obtain ⟨w8, e8, hz8, hg8, hs8⟩ := six hres4 (.int .i64 ka) (.int .u64 kx) (.int .u64 ky) (.int .u64 kz) (.int .u64 ku) (.slice ko kn kc)
     have hr8 : Rd b s j w8 := (hg8.block b (Array.getElem?_eq_some_iff.1 hr4).1 (fun e => hbn (Option.some.inj e))).trans hr4
     have hG8 : Gr b w w8 := gr_fresh hG4 (Nat.le_refl _) hg8
     have HR8 := hid hr8
     clear hr8
     go_wp2_with fail
     obtain ⟨y0, y1, y2, y3, y4, y5⟩ := cells6 hz8
     refine bodyPost_ret (v := .agg #[.int .i64 ka, .int .u64 kx, .int .u64 ky, .int .u64 kz, .int .u64 ku, .slice ko kn kc]) (by simp [results, Tryz.results103, go_sem, y0, y1, y2, y3, y4, y5]) rfl ?_
     exact ⟨_, rfl, (HR.out.kept (keep_gr (b := w.heap.size) (by omega) hg8)).mono (by omega), HR8.out, hG8, hjl⟩
    | r1 :: r2 :: L, hLs, HRow =>
     obtain ⟨g, cap, hv, hBg, hgw, hcap, hrep⟩ := HRow.out.shape (by simp)
     obtain ⟨rfl, _, rfl⟩ : so = some ⟨g, 0, none⟩ ∧ True ∧ sc = cap := by injection hv with h1 h2 h3; exact ⟨h1, trivial, h3⟩
     have HR := hid (show Rep (w.heap.size + 1) w4 (.cat (r1 :: r2 :: L)) (nodeV 2 0 0 0 0 (.slice (some ⟨g, 0, none⟩) (r1 :: r2 :: L).length sc)) from .cat _ g sc hrep hcap hBg hgw (by simp))
     clear hv hrep
     have t0 : (((r1 :: r2 :: L).length : Int) == 0) = false := by simp; omega
     have t1 : (((r1 :: r2 :: L).length : Int) == 1) = false := by simp; omega
     generalize (r1 :: r2 :: L).length = n at *
     obtain ⟨w8, e8, hz8, hg8, hs8⟩ := six hres4 (.int .i64 2) (.int .u64 0) (.int .u64 0) (.int .u64 0) (.int .u64 0) (.slice (some ⟨g, 0, none⟩) n sc)
     have hr8 : Rd b s j w8 := (hg8.block b (Array.getElem?_eq_some_iff.1 hr4).1 (fun e => hbn (Option.some.inj e))).trans hr4
     have hG8 : Gr b w w8 := gr_fresh hG4 (Nat.le_refl _) hg8
     have HR8 := hid hr8
     clear hr8
     go_wp2_with fail
     obtain ⟨y0, y1, y2, y3, y4, y5⟩ := cells6 hz8
     refine bodyPost_ret (v := .agg #[.int .i64 2, .int .u64 0, .int .u64 0, .int .u64 0, .int .u64 0, .slice (some ⟨g, 0, none⟩) n sc]) (by simp [results, Tryz.results103, go_sem, y0, y1, y2, y3, y4, y5]) rfl ?_
     exact ⟨_, rfl, (HR.out.kept (keep_gr (b := w.heap.size) (by omega) hg8)).mono (by omega), HR8.out, hG8, hjl⟩
   have hEf : X3.endW (LL s) j = false := by rw [hE]; simp [c124, c41]
   rw [hEf] at HPP
   simp only [Bool.false_eq_true, if_false] at HPP
   clear hE hEf
   have n124 : ((x : Int) == 124) = false := by simp; omega
   have n41 : ((x : Int) == 41) = false := by simp; omega
   go_wp2_with fail
   refine kpk.out.mono ?_
   rintro e w4 ⟨rfl, hb4, hh4⟩
   have hg4 : Gr b wr w4 := gr_below hb4
   have hr4 : Rd b s j w4 := by unfold Rd; rw [hh4]; exact ST.out.rd
   have HRow := hid (ST.out.row.below (hb4))
   have hs4 := hb4.size
   have hKr : w.heap.size < wr.heap.size := (Array.getElem?_eq_some_iff.1 ST.out.res).1
   have KP2 := hid (KP.out j w4 ST.out.ge hr4 ST.out.le)
   cases hD : X3.pieceX W (LL s) j with
   | err c =>
    rw [hD] at KP2 HPP
    have hR : R = .err c := HPP.out.symm
    subst hR
    have hRR : RR = .err c := HRR.out
    subst hRR
    go_wp2_with fail
    refine KP2.out.mono ?_
    rintro e w5 ⟨rfl, hg5⟩
    exact ⟨rfl, rfl, World.grownBy.trans ST.out.gr (World.grownBy.trans hg4 hg5)⟩
   | ok r j' =>
    have hat := HAT.out j j' r hD
    rw [hll] at hat
    rw [hD] at KP2 HPP
    replace HPP : Hid (X3.wayL W (LL s) f j' (L ++ [r]) = R) := HPP
    go_wp2_with fail
    refine KP2.out.mono ?_
    rintro e w5 ⟨nv, rfl, hRn, hr5, hg5, hj5⟩
    obtain ⟨ka, kx, ky, kz, ku, ko, kn, kc, rfl⟩ := hRn.shape
    obtain ⟨VS, hreps, hown⟩ := HRow.out.gr (b := b) (by omega) hg5
    have hltb := HRow.out.lt
    obtain ⟨i0, hi, hz0, hz1, hz2⟩ := info_parts info28
    have hs5 := hg5.size
    go_wp2_with (at_builtin; refine wpList_append_own_at _ rfl _ _ 44 rfl (w.heap.size + 1) 46 i0 (.agg zero6) 6 64 Tryz.underlying44 hi hz0 hz1 hz2 rfl (by decide) _ _ _ rfl (hown.alloc _) ⟨w5.heap.size, 0, none⟩ 1 1 [.int .i64 ka, .int .u64 kx, .int .u64 ky, .int .u64 kz, .int .u64 ku, .slice ko kn kc] rfl rfl ?c1 ?c2 ?c3 ?c4 ?c5 ?_)
    case c1 =>
     intro j v hj
     have := Lib.cell_of_heap (new_block w5 (.cells #[.int .i64 ka, .int .u64 kx, .int .u64 ky, .int .u64 kz, .int .u64 ku, .slice ko kn kc] 46)) j
     rw [show (⟨w5.heap.size, 0, none⟩ : Addr).add j = ⟨w5.heap.size, j, none⟩ by simp [Addr.add]; omega]
     rw [this, ← hj]
     simp
    case c2 => intro v hv; simp at hv; rcases hv with rfl | rfl | rfl | rfl | rfl | rfl <;> rfl
    case c3 => unfold maxLen; omega
    case c4 => omega
    case c5 => simp; omega
    intro v' w6 hown' hgrow hnil hat'
    have hrow6 : RowOf (w.heap.size + 1) w6 v' (L ++ [r]) := row_push hreps hltb (by omega) hRn ((Below.refl _ w5).alloc (Nat.le_refl _) _) hown' hgrow (by rw [World.size_alloc]; exact hat')
    have hgA : Gr b wr w5 := World.grownBy.trans hg4 hg5
    have hb56 : Below (w.heap.size + 1) w5 w6 := ((Below.refl _ w5).alloc (by omega) _).grown hgrow (by simp; omega) (fun q hq => (hltb q hq).1)
    have hG5 : Gr b w w5 := World.grownBy.trans ST.out.gr hgA
    have hG6 : Gr b w w6 := ⟨hb56.os.trans hG5.os, hb56.tape.trans hG5.tape, hb56.output.trans hG5.output, Nat.le_trans hG5.size hb56.size, fun k hk hne => (hb56.block k (by omega)).trans (hG5.block k hk hne)⟩
    have hr6 : Rd b s j' w6 := (hb56.block b (by omega)).trans hr5
    have hres6 := (hb56.block w.heap.size (by omega)).trans ((hgA.block w.heap.size (by omega) (fun e => hne (Option.some.inj e))).trans ST.out.res)
    have hst : WaySt b s w W R i j' (L ++ [r]) v' w6 := ⟨hr6, hG6, hj5, by have := ST.out.ge; omega, hres6, hrow6, by have := ST.out.few; simp; omega, ⟨f, by omega, HPP.out⟩⟩
    have HST := hid hst
    have hrp := ST.out.rd
    clear hst hrow6 hown' hgrow hnil hat' hown hreps hltb HRow
    go_wp2_with fail
    refine ⟨⟨j', _, HST.out⟩, ?_⟩
    show s.size - posOf b w6 < s.size - posOf b wr
    rw [posOf_rd hr6, posOf_rd hrp]
    omega
  ·obtain rfl : j = s.size := by have := ST.out.le; omega
   have kpk := hid (peek_end b s wr ST.out.rd hsm)
   rw [endW_end, if_pos rfl] at HPP
   go_wp2_with fail
   refine kpk.out.mono ?_
   rintro e w4 ⟨rfl, hb4, hh4⟩
   have hg4 : Gr b wr w4 := gr_below hb4
   have hr4 : Rd b s s.size w4 := by unfold Rd; rw [hh4]; exact ST.out.rd
   have hG4 : Gr b w w4 := World.grownBy.trans ST.out.gr hg4
   have hres4 := (hg4.block w.heap.size (by have := (Array.getElem?_eq_some_iff.1 ST.out.res).1; omega) (fun e => hne (Option.some.inj e))).trans ST.out.res
   have HRow := hid (ST.out.row.gr (b := b) (by omega) hg4)
   have hRR : RR = .ok (X3.mkCat L) s.size := by rw [HRR.out, ← HPP.out]; rfl
   subst hRR
   unfold zero6 at hres4
   obtain ⟨n0, n1, n2, n3, n4, n5⟩ := cells6 hres4
   obtain ⟨f0, f1, f2, f3, f4, f5⟩ := frozen6 hres4
   have hjl := ST.out.le
   clear HPP HRR KP HAT
   match L, hLs, HRow with
   | [], _, HRow =>
    skip
    obtain ⟨w8, e8, hz8, hg8, hs8⟩ := six hres4 (.int .i64 0) (.int .u64 0) (.int .u64 0) (.int .u64 0) (.int .u64 0) (.slice none 0 0)
    have hr8 : Rd b s s.size w8 := (hg8.block b (Array.getElem?_eq_some_iff.1 hr4).1 (fun e => hbn (Option.some.inj e))).trans hr4
    have hG8 : Gr b w w8 := gr_fresh hG4 (Nat.le_refl _) hg8
    have HR8 := hid hr8
    clear hr8
    go_wp2_with fail
    obtain ⟨y0, y1, y2, y3, y4, y5⟩ := cells6 hz8
    refine bodyPost_ret (v := .agg #[.int .i64 0, .int .u64 0, .int .u64 0, .int .u64 0, .int .u64 0, .slice none 0 0]) (by simp [results, Tryz.results103, go_sem, y0, y1, y2, y3, y4, y5]) rfl ?_
    exact ⟨_, rfl, Rep.empty, HR8.out, hG8, hjl⟩
   | [r], _, HRow =>
    obtain ⟨g, cap, hv, hBg, hgw, hcap, hrep⟩ := HRow.out.shape (by simp)
    obtain ⟨rfl, _, rfl⟩ : so = some ⟨g, 0, none⟩ ∧ True ∧ sc = cap := by injection hv with h1 h2 h3; exact ⟨h1, trivial, h3⟩
    obtain ⟨ka, kx, ky, kz, ku, kv, hR, c0, c1, c2, c3, c4, c5⟩ := RepLS.at_ hrep 0 (by simp)
    obtain ⟨ko, kn, kc, rfl⟩ := hR.slice
    simp only [Nat.zero_add, Nat.zero_mul] at c0 c1 c2 c3 c4 c5
    simp only [List.length_cons, List.length_nil, Nat.zero_add] at hcap
    have HR := hid (show Rep (w.heap.size + 1) w4 r _ from hR)
    clear hR hv hrep
    obtain ⟨w8, e8, hz8, hg8, hs8⟩ := six hres4 (.int .i64 ka) (.int .u64 kx) (.int .u64 ky) (.int .u64 kz) (.int .u64 ku) (.slice ko kn kc)
    have hr8 : Rd b s s.size w8 := (hg8.block b (Array.getElem?_eq_some_iff.1 hr4).1 (fun e => hbn (Option.some.inj e))).trans hr4
    have hG8 : Gr b w w8 := gr_fresh hG4 (Nat.le_refl _) hg8
    have HR8 := hid hr8
    clear hr8
    go_wp2_with fail
    obtain ⟨y0, y1, y2, y3, y4, y5⟩ := cells6 hz8
    refine bodyPost_ret (v := .agg #[.int .i64 ka, .int .u64 kx, .int .u64 ky, .int .u64 kz, .int .u64 ku, .slice ko kn kc]) (by simp [results, Tryz.results103, go_sem, y0, y1, y2, y3, y4, y5]) rfl ?_
    exact ⟨_, rfl, (HR.out.kept (keep_gr (b := w.heap.size) (by omega) hg8)).mono (by omega), HR8.out, hG8, hjl⟩
   | r1 :: r2 :: L, hLs, HRow =>
    obtain ⟨g, cap, hv, hBg, hgw, hcap, hrep⟩ := HRow.out.shape (by simp)
    obtain ⟨rfl, _, rfl⟩ : so = some ⟨g, 0, none⟩ ∧ True ∧ sc = cap := by injection hv with h1 h2 h3; exact ⟨h1, trivial, h3⟩
    have HR := hid (show Rep (w.heap.size + 1) w4 (.cat (r1 :: r2 :: L)) (nodeV 2 0 0 0 0 (.slice (some ⟨g, 0, none⟩) (r1 :: r2 :: L).length sc)) from .cat _ g sc hrep hcap hBg hgw (by simp))
    clear hv hrep
    have t0 : (((r1 :: r2 :: L).length : Int) == 0) = false := by simp; omega
    have t1 : (((r1 :: r2 :: L).length : Int) == 1) = false := by simp; omega
    generalize (r1 :: r2 :: L).length = n at *
    obtain ⟨w8, e8, hz8, hg8, hs8⟩ := six hres4 (.int .i64 2) (.int .u64 0) (.int .u64 0) (.int .u64 0) (.int .u64 0) (.slice (some ⟨g, 0, none⟩) n sc)
    have hr8 : Rd b s s.size w8 := (hg8.block b (Array.getElem?_eq_some_iff.1 hr4).1 (fun e => hbn (Option.some.inj e))).trans hr4
    have hG8 : Gr b w w8 := gr_fresh hG4 (Nat.le_refl _) hg8
    have HR8 := hid hr8
    clear hr8
    go_wp2_with fail
    obtain ⟨y0, y1, y2, y3, y4, y5⟩ := cells6 hz8
    refine bodyPost_ret (v := .agg #[.int .i64 2, .int .u64 0, .int .u64 0, .int .u64 0, .int .u64 0, .slice (some ⟨g, 0, none⟩) n sc]) (by simp [results, Tryz.results103, go_sem, y0, y1, y2, y3, y4, y5]) rfl ?_
    exact ⟨_, rfl, (HR.out.kept (keep_gr (b := w.heap.size) (by omega) hg8)).mono (by omega), HR8.out, hG8, hjl⟩
end Go.Proofs.YtochckefnjobhaaGreatDoor
namespace Go.Proofs.YtochckefnjobhaaGreatDoor
open Go Go.RowKit Go.Lib
set_option linter.unusedVariables false
set_option linter.unusedSimpArgs false
structure WaysSt (b : Nat) (s : ByteArray) (w : World) (W : Nat → X3.PR X3.RX) (R : X3.PR (List X3.RX)) (i j : Nat) (L : List X3.RX) (a : Value) (wr : World) : Prop where
 rd : Rd b s j wr
 gr : Gr b w wr
 le : j ≤ s.size
 ge : i ≤ j
 res : wr.heap[w.heap.size]? = some (.cells zero6 46 (0, 0))
 row : RowOf (w.heap.size + 1) wr a L
 few : L.length ≤ j + 1
 some_ : L ≠ []
 goes : ∃ f, s.size - j ≤ f ∧ (if X3.passed (LL s) j 124 then X3.waysL W (LL s) f (j + 1) L else .ok L j) = R
set_option maxRecDepth 100000 in
set_option maxHeartbeats 8000000 in
theorem ways_step (b : Nat) (s : ByteArray) (i : Nat) (w : World) (h : Rd b s i w) (hs : s.size ≤ 1000) (hi : i ≤ s.size) (W : Nat → X3.PR X3.RX)
  (hW : ∀ (w : World) (k : Nat), i < k → Rd b s k w → k ≤ s.size → Calls Tryz.prog 81 #[.pointer (some ⟨b, 0, none⟩)] w (RP b s w (W k)))
  (hWg : X3.Goes (LL s) W) (hWb : ∀ i r j, i ≤ s.size → W i = .ok r j → r.size ≤ 1000000) :
  Calls Tryz.prog 81 #[.pointer (some ⟨b, 0, none⟩)] w (RP b s w ((X3.waysL W (LL s) ((LL s).length + 1) i []).bind fun l j => .ok (X3.mkAlt l) j)) := by
 have hbw : b < w.heap.size := (Array.getElem?_eq_some_iff.1 h).1
 have hbn : b ≠ w.heap.size := by omega
 have hne : w.heap.size ≠ b := by omega
 have hsm : s.size ≤ maxLen := by unfold maxLen; omega
 obtain ⟨w0, hw0⟩ : ∃ w0, w0 = w.alloc (.cells zero6 46) := ⟨_, rfl⟩
 have hg0 : Gr b w w0 := by rw [hw0]; exact gr_alloc (Gr.refl b w) _
 have h0 : Rd b s i w0 := by rw [hw0]; exact (Below.heap_alloc _ _ _ hbw).trans h
 have hz0 : w0.heap[w.heap.size]? = some (.cells zero6 46 (0, 0)) := by rw [hw0]; exact new_block _ _
 have hs0 : w0.heap.size = w.heap.size + 1 := by rw [hw0]; simp
 unfold zero6 at hw0
 have hll : (LL s).length = s.size := rfl
 have KW := hid (fun j (w : World) (hj : i ≤ j) (h : Rd b s j w) (hle : j ≤ s.size) => way_any b s j w h hs hle W (fun w k hk => hW w k (by omega)) hWg hWb)
 have HAT := hid (fun j j' r (hj : j ≤ s.size) (h : X3.wayX W (LL s) j = .ok r j') => X3.way_at hWg (by rw [hll]; exact hj) h)
 obtain ⟨RR, HRR⟩ : ∃ RR, Hid (RR = (X3.waysL W (LL s) ((LL s).length + 1) i []).bind fun l j => .ok (X3.mkAlt l) j) := ⟨_, hid rfl⟩
 rw [← HRR.out]
 have HUN : Hid (X3.waysL W (LL s) ((LL s).length + 1) i [] = (X3.wayX W (LL s) i).bind fun r j => if X3.passed (LL s) j 124 then X3.waysL W (LL s) (LL s).length (j + 1) ([] ++ [r]) else .ok ([] ++ [r]) j) := hid rfl
 generalize X3.waysL W (LL s) ((LL s).length + 1) i [] = R at *
 have KW0 := hid (KW.out i w0 (Nat.le_refl _) h0 hi)
 clear hW hWg hWb
 cases hA : X3.wayX W (LL s) i with
 | err c =>
  rw [hA] at HUN KW0
  have hR : R = .err c := HUN.out
  subst hR
  have hRR : RR = .err c := HRR.out
  subst hRR
  go_enter Tryz.func81, Tryz.ntmps81
  go_upto_region 1 with fail
  rw [← hw0]
  clear hw0
  go_wp2_with fail
  refine KW0.out.mono ?_
  rintro e w1 ⟨rfl, hg⟩
  exact ⟨rfl, rfl, World.grownBy.trans hg0 hg⟩
 | ok r j =>
  have hat := HAT.out i j r hi hA
  rw [hll] at hat
  rw [hA] at HUN KW0
  replace HUN : Hid (R = if X3.passed (LL s) j 124 then X3.waysL W (LL s) (LL s).length (j + 1) [r] else .ok [r] j) := HUN
  go_enter Tryz.func81, Tryz.ntmps81
  go_upto_region 1 with fail
  rw [← hw0]
  clear hw0
  go_wp2_with fail
  refine KW0.out.mono ?_
  rintro e w1 ⟨v, rfl, hR, hr, hg, hj⟩
  obtain ⟨ka, kx, ky, kz, ku, ko, kn, kc, rfl⟩ := hR.shape
  have hG1 : Gr b w w1 := World.grownBy.trans hg0 hg
  have hs1 : w.heap.size + 1 ≤ w1.heap.size := by have := hg.size; omega
  have hz1 := (hg.block w.heap.size (by omega) (fun e => hne (Option.some.inj e))).trans hz0
  obtain ⟨w2, e2⟩ : ∃ w2, w1.alloc (.cells #[.int .i64 ka, .int .u64 kx, .int .u64 ky, .int .u64 kz, .int .u64 ku, .slice ko kn kc] 46) = w2 := ⟨_, rfl⟩
  have hb2 : Below w1.heap.size w1 w2 := by rw [← e2]; exact (Below.refl _ _).alloc (Nat.le_refl _) _
  have hv2 : w2.heap[w1.heap.size]? = some (.cells #[.int .i64 ka, .int .u64 kx, .int .u64 ky, .int .u64 kz, .int .u64 ku, .slice ko kn kc] 46 (0, 0)) := by rw [← e2]; exact new_block _ _
  have hst : WaysSt b s w W R i j [r] (.slice (some ⟨w1.heap.size, 0, none⟩) 1 1) w2 :=
   ⟨(hb2.block b (by omega)).trans hr, World.grownBy.trans hG1 (gr_below hb2), hj, hat.1, (hb2.block _ (by omega)).trans hz1,
    row_one (by omega) (RepS.kept (keepS_below hb2) (hR.monoS (fun x hx hl => ⟨by have : w0.heap.size ≤ x := hx; omega, by omega⟩))) hv2, by simp, by simp, ⟨_, by rw [hll]; omega, HUN.out.symm⟩⟩
  have HST := hid hst
  have hgx := World.grownBy.trans hG1 (gr_below hb2)
  clear hst hA KW0 hR hv2 hb2 hz1 hz0 hg0 h0 hg hr
  go_wp2_with fail
  go_loopw [3] (fun a wr => ∃ (j : Nat) (L : List X3.RX), WaysSt b s w W R i j L a wr) (fun _ wr => s.size - posOf b wr)
  case atStart => exact ⟨j, [r], HST.out⟩
  case round =>
   clear HST HUN hj hat e2
   clear r j
   obtain ⟨j, L, st⟩ := hrel
   obtain ⟨f, hf, hp⟩ := st.goes
   have HPP := hid hp
   clear hp
   obtain ⟨so, sc, rfl⟩ := st.row.sl
   have ST := hid st
   clear st
   have hLs : L.length ≤ 1001 := by have := ST.out.few; have := ST.out.le; omega
   have kp1 := hid (passed_any b s 124 j wr ST.out.rd hsm ST.out.le)
   by_cases h124 : X3.passed (LL s) j 124 = true
   ·rw [h124] at kp1 HPP
    simp only [if_true] at kp1 HPP
    have hlt := passed_le h124
    clear h124
    have hf0 : 0 < f := by omega
    obtain ⟨f, rfl⟩ : ∃ f', f = f' + 1 := ⟨f - 1, by omega⟩
    have HPU : Hid ((X3.wayX W (LL s) (j + 1)).bind (fun r j => if X3.passed (LL s) j 124 then X3.waysL W (LL s) f (j + 1) (L ++ [r]) else .ok (L ++ [r]) j) = R) := HPP
    clear HPP
    go_wp2_with fail
    refine kp1.out.mono ?_
    rintro e w4 ⟨rfl, hr4, hg4⟩
    have HRow := hid (ST.out.row.gr (b := b) (by omega) hg4)
    have hs4 := hg4.size
    have hKr : w.heap.size < wr.heap.size := (Array.getElem?_eq_some_iff.1 ST.out.res).1
    have KP2 := hid (KW.out (j + 1) w4 (by have := ST.out.ge; omega) hr4 hlt)
    cases hD : X3.wayX W (LL s) (j + 1) with
    | err c =>
     rw [hD] at KP2 HPU
     have hR : R = .err c := HPU.out.symm
     subst hR
     have hRR : RR = .err c := HRR.out
     subst hRR
     go_wp2_with fail
     refine KP2.out.mono ?_
     rintro e w5 ⟨rfl, hg5⟩
     exact ⟨rfl, rfl, World.grownBy.trans ST.out.gr (World.grownBy.trans hg4 hg5)⟩
    | ok r j' =>
     have hat := HAT.out (j + 1) j' r hlt hD
     rw [hll] at hat
     rw [hD] at KP2 HPU
     replace HPU : Hid ((if X3.passed (LL s) j' 124 then X3.waysL W (LL s) f (j' + 1) (L ++ [r]) else .ok (L ++ [r]) j') = R) := HPU
     go_wp2_with fail
     refine KP2.out.mono ?_
     rintro e w5 ⟨nv, rfl, hRn, hr5, hg5, hj5⟩
     obtain ⟨ka, kx, ky, kz, ku, ko, kn, kc, rfl⟩ := hRn.shape
     obtain ⟨VS, hreps, hown⟩ := HRow.out.gr (b := b) (by omega) hg5
     have hltb := HRow.out.lt
     obtain ⟨i0, hi, hz0, hz1, hz2⟩ := info_parts info28
     have hs5 := hg5.size
     go_wp2_with (at_builtin; refine wpList_append_own_at _ rfl _ _ 44 rfl (w.heap.size + 1) 46 i0 (.agg zero6) 6 64 Tryz.underlying44 hi hz0 hz1 hz2 rfl (by decide) _ _ _ rfl (hown.alloc _) ⟨w5.heap.size, 0, none⟩ 1 1 [.int .i64 ka, .int .u64 kx, .int .u64 ky, .int .u64 kz, .int .u64 ku, .slice ko kn kc] rfl rfl ?c1 ?c2 ?c3 ?c4 ?c5 ?_)
     case c1 =>
      intro j v hj
      have := Lib.cell_of_heap (new_block w5 (.cells #[.int .i64 ka, .int .u64 kx, .int .u64 ky, .int .u64 kz, .int .u64 ku, .slice ko kn kc] 46)) j
      rw [show (⟨w5.heap.size, 0, none⟩ : Addr).add j = ⟨w5.heap.size, j, none⟩ by simp [Addr.add]; omega]
      rw [this, ← hj]
      simp
     case c2 => intro v hv; simp at hv; rcases hv with rfl | rfl | rfl | rfl | rfl | rfl <;> rfl
     case c3 => unfold maxLen; omega
     case c4 => omega
     case c5 => simp; omega
     intro v' w6 hown' hgrow hnil hat'
     have hrow6 : RowOf (w.heap.size + 1) w6 v' (L ++ [r]) := row_push hreps hltb (by omega) hRn ((Below.refl _ w5).alloc (Nat.le_refl _) _) hown' hgrow (by rw [World.size_alloc]; exact hat')
     have hgA : Gr b wr w5 := World.grownBy.trans hg4 hg5
     have hb56 : Below (w.heap.size + 1) w5 w6 := ((Below.refl _ w5).alloc (by omega) _).grown hgrow (by simp; omega) (fun q hq => (hltb q hq).1)
     have hG5 : Gr b w w5 := World.grownBy.trans ST.out.gr hgA
     have hG6 : Gr b w w6 := ⟨hb56.os.trans hG5.os, hb56.tape.trans hG5.tape, hb56.output.trans hG5.output, Nat.le_trans hG5.size hb56.size, fun k hk hne => (hb56.block k (by omega)).trans (hG5.block k hk hne)⟩
     have hr6 : Rd b s j' w6 := (hb56.block b (by omega)).trans hr5
     have hres6 := (hb56.block w.heap.size (by omega)).trans ((hgA.block w.heap.size (by omega) (fun e => hne (Option.some.inj e))).trans ST.out.res)
     have hst : WaysSt b s w W R i j' (L ++ [r]) v' w6 := ⟨hr6, hG6, hj5, by have := ST.out.ge; omega, hres6, hrow6, by have := ST.out.few; simp; omega, by simp, ⟨f, by omega, HPU.out⟩⟩
     have HST := hid hst
     have hrp := ST.out.rd
     clear hst hrow6 hown' hgrow hnil hat' hown hreps hltb HRow
     go_wp2_with fail
     refine ⟨⟨j', _, HST.out⟩, ?_⟩
     show s.size - posOf b w6 < s.size - posOf b wr
     rw [posOf_rd hr6, posOf_rd hrp]
     omega
   ·have hn : X3.passed (LL s) j 124 = false := by simpa using h124
    rw [hn] at kp1 HPP
    simp only [Bool.false_eq_true, if_false] at kp1 HPP
    clear hn h124
    go_wp2_with fail
    refine kp1.out.mono ?_
    rintro e w4 ⟨rfl, hr4, hg4⟩
    have hG4 : Gr b w w4 := World.grownBy.trans ST.out.gr hg4
    have hres4 := (hg4.block w.heap.size (by have := (Array.getElem?_eq_some_iff.1 ST.out.res).1; omega) (fun e => hne (Option.some.inj e))).trans ST.out.res
    have HRow := hid (ST.out.row.gr (b := b) (by omega) hg4)
    have hRR : RR = .ok (X3.mkAlt L) j := by rw [HRR.out, ← HPP.out]; rfl
    subst hRR
    unfold zero6 at hres4
    obtain ⟨n0, n1, n2, n3, n4, n5⟩ := cells6 hres4
    obtain ⟨f0, f1, f2, f3, f4, f5⟩ := frozen6 hres4
    have hjl := ST.out.le
    have hL0 := hid ST.out.some_
    clear HPP HRR KW HAT ST
    match L, hLs, HRow, hL0 with
    | [], _, HRow, h0 => exact absurd rfl h0.out
    | [r], _, HRow, _ =>
     obtain ⟨g, cap, hv, hBg, hgw, hcap, hrep⟩ := HRow.out.shape (by simp)
     obtain ⟨rfl, _, rfl⟩ : so = some ⟨g, 0, none⟩ ∧ True ∧ sc = cap := by injection hv with h1 h2 h3; exact ⟨h1, trivial, h3⟩
     obtain ⟨ka, kx, ky, kz, ku, kv, hR, c0, c1, c2, c3, c4, c5⟩ := RepLS.at_ hrep 0 (by simp)
     obtain ⟨ko, kn, kc, rfl⟩ := hR.slice
     simp only [Nat.zero_add, Nat.zero_mul] at c0 c1 c2 c3 c4 c5
     simp only [List.length_cons, List.length_nil, Nat.zero_add] at hcap
     have HR := hid (show Rep (w.heap.size + 1) w4 r _ from hR)
     clear hR hv hrep
     obtain ⟨w8, e8, hz8, hg8, hs8⟩ := six hres4 (.int .i64 ka) (.int .u64 kx) (.int .u64 ky) (.int .u64 kz) (.int .u64 ku) (.slice ko kn kc)
     have hr8 : Rd b s j w8 := (hg8.block b (Array.getElem?_eq_some_iff.1 hr4).1 (fun e => hbn (Option.some.inj e))).trans hr4
     have hG8 : Gr b w w8 := gr_fresh hG4 (Nat.le_refl _) hg8
     have HR8 := hid hr8
     clear hr8
     go_wp2_with fail
     obtain ⟨y0, y1, y2, y3, y4, y5⟩ := cells6 hz8
     refine bodyPost_ret (v := .agg #[.int .i64 ka, .int .u64 kx, .int .u64 ky, .int .u64 kz, .int .u64 ku, .slice ko kn kc]) (by simp [results, Tryz.results81, go_sem, y0, y1, y2, y3, y4, y5]) rfl ?_
     exact ⟨_, rfl, (HR.out.kept (keep_gr (b := w.heap.size) (by omega) hg8)).mono (by omega), HR8.out, hG8, hjl⟩
    | r1 :: r2 :: L, hLs, HRow, _ =>
     obtain ⟨g, cap, hv, hBg, hgw, hcap, hrep⟩ := HRow.out.shape (by simp)
     obtain ⟨rfl, _, rfl⟩ : so = some ⟨g, 0, none⟩ ∧ True ∧ sc = cap := by injection hv with h1 h2 h3; exact ⟨h1, trivial, h3⟩
     have HR := hid (show Rep (w.heap.size + 1) w4 (.alt (r1 :: r2 :: L)) (nodeV 3 0 0 0 0 (.slice (some ⟨g, 0, none⟩) (r1 :: r2 :: L).length sc)) from .alt _ g sc hrep hcap hBg hgw (by simp))
     clear hv hrep
     have t1 : (((r1 :: r2 :: L).length : Int) == 1) = false := by simp; omega
     generalize (r1 :: r2 :: L).length = n at *
     obtain ⟨w8, e8, hz8, hg8, hs8⟩ := six hres4 (.int .i64 3) (.int .u64 0) (.int .u64 0) (.int .u64 0) (.int .u64 0) (.slice (some ⟨g, 0, none⟩) n sc)
     have hr8 : Rd b s j w8 := (hg8.block b (Array.getElem?_eq_some_iff.1 hr4).1 (fun e => hbn (Option.some.inj e))).trans hr4
     have hG8 : Gr b w w8 := gr_fresh hG4 (Nat.le_refl _) hg8
     have HR8 := hid hr8
     clear hr8
     go_wp2_with fail
     obtain ⟨y0, y1, y2, y3, y4, y5⟩ := cells6 hz8
     refine bodyPost_ret (v := .agg #[.int .i64 3, .int .u64 0, .int .u64 0, .int .u64 0, .int .u64 0, .slice (some ⟨g, 0, none⟩) n sc]) (by simp [results, Tryz.results81, go_sem, y0, y1, y2, y3, y4, y5]) rfl ?_
     exact ⟨_, rfl, (HR.out.kept (keep_gr (b := w.heap.size) (by omega) hg8)).mono (by omega), HR8.out, hG8, hjl⟩
theorem ways_any (b : Nat) (s : ByteArray) (hs : s.size ≤ 1000) : ∀ (f i : Nat) (w : World), Rd b s i w → i ≤ s.size → s.size - i < f → Calls Tryz.prog 81 #[.pointer (some ⟨b, 0, none⟩)] w (RP b s w (X3.waysX (LL s) f i)) := by
 intro f
 induction f with
 | zero => intro i w h hi hf; omega
 | succ f ih =>
  intro i w h hi hf
  exact ways_step b s i w h hs hi (X3.waysX (LL s) f) (fun w k hk hr hkl => ih k w hr hkl (by omega)) (X3.ways_goes (LL s) f) (fun i r j hi hw => by
   have h1 := X3.ways_size (s := LL s) hi hw
   have h2 := (X3.ways_goes (LL s) f i j r hi hw).2
   have h3 : (LL s).length = s.size := rfl
   omega)
end Go.Proofs.YtochckefnjobhaaGreatDoor
namespace Go.Proofs.YtochckefnjobhaaGreatDoor
open Go Go.RowKit Go.Lib
set_option linter.unusedVariables false
set_option linter.unusedSimpArgs false
theorem one_cell {w : World} {k : Nat} {t : TypeId} {b0 : Value} (h : w.heap[k]? = some (.cells #[b0] t (0, 0))) (a0 : Value) :
  ∃ w8, (w.setCell ⟨k, 0, none⟩ a0) = w8 ∧ w8.heap[k]? = some (.cells #[a0] t (0, 0)) ∧ Gr k w w8 ∧ w8.heap.size = w.heap.size :=
 ⟨_, rfl, heap_setCell_same _ k 0 _ t a0 h, gr_set (Gr.refl k w) 0 _, by simp⟩
set_option maxRecDepth 100000 in
set_option maxHeartbeats 2000000 in
theorem catch_idle (p q : Addr) (w : World) :
  CallsD Tryz.prog 80 #[.pointer (some p), .pointer (some q)] .returning w fun e u' w' => e = .returned (.tuple #[]) ∧ u' = .returning ∧ w' = w := by
 refine callsD_of_wpS Tryz.func80 rfl fun c₀ cs hu => ?_
 simp only [Tryz.ntmps80, List.size_toArray, List.length_cons, List.length_nil, Nat.reduceAdd, Nat.reduceSub, Array.replicate_succ, Array.replicate_zero, List.push_toArray, List.append_toArray, List.nil_append, List.cons_append]
 apply wpS_seq
 apply wpS_region
 simp [wpOpsS, go_sem, recoverD, hu, Exit.thenS]
 apply wpS_seq
 apply wpS_region
 simp [wpOpsS, go_sem, recoverD, hu, Exit.thenS]
 refine wpS_cond (t := false) (by simp [Act.eval]) ?_
 simp only [Bool.false_eq_true, if_false]
 refine wpS_of_wp (wp_skip ?_)
 cases c₀
 simp_all [bodyPostS, results, Tryz.results80]
theorem assert67 (W : World) (v : Value) : (Instr.typeAssert (.iface 136 v) 20 136 true).run Tryz.prog W = .ok (.tuple #[v, .bool true]) W := by kernel_rfl
set_option maxRecDepth 100000 in
set_option maxHeartbeats 2000000 in
theorem catch_panicking (p q : Nat) (n : Int) (w : World) (hp : ∃ a0 a1 a2 a3 a4 a5, w.heap[p]? = some (.cells #[a0, a1, a2, a3, a4, a5] 46 (0, 0))) (hq : ∃ v, w.heap[q]? = some (.cells #[v] 29 (0, 0))) (hpq : p ≠ q) :
  CallsD Tryz.prog 80 #[.pointer (some ⟨p, 0, none⟩), .pointer (some ⟨q, 0, none⟩)] (.panicking [{ v := .iface 136 (.agg #[.int .i64 n]), recovered := false }]) w fun e u' w' =>
   e = .returned (.tuple #[]) ∧ u' = .panicking [{ v := .iface 136 (.agg #[.int .i64 n]), recovered := true }] ∧
   (w'.heap[p]? = some (.cells zero6 46 (0, 0)) ∧ w'.heap[q]? = some (.cells #[.int .i64 n] 29 (0, 0)) ∧ w'.os = w.os ∧ w'.tape = w.tape ∧ w'.output = w.output ∧ w.heap.size ≤ w'.heap.size ∧ ∀ k, k < w.heap.size → k ≠ p → k ≠ q → w'.heap[k]? = w.heap[k]?) := by
 refine callsD_of_wpS Tryz.func80 rfl fun c₀ cs hu => ?_
 simp only [Tryz.ntmps80, List.size_toArray, List.length_cons, List.length_nil, Nat.reduceAdd, Nat.reduceSub, Array.replicate_succ, Array.replicate_zero, List.push_toArray, List.append_toArray, List.nil_append, List.cons_append]
 apply wpS_seq
 apply wpS_region
 simp [wpOpsS, go_sem, recoverD, hu, Exit.thenS]
 apply wpS_seq
 apply wpS_region
 simp [wpOpsS, go_sem, recoverD, hu, Exit.thenS]
 refine wpS_cond (t := true) (by simp [Act.eval]) ?_
 simp only [if_true]
 refine wpS_of_wp ?_
 have hta := assert67
 obtain ⟨a0, a1, a2, a3, a4, a5, hp⟩ := hp
 obtain ⟨v0, hq⟩ := hq
 have hpl : p < w.heap.size := (Array.getElem?_eq_some_iff.1 hp).1
 have hql : q < w.heap.size := (Array.getElem?_eq_some_iff.1 hq).1
 obtain ⟨w0, e0⟩ : ∃ w0, w.alloc (.cells #[.int .i64 n] 136) = w0 := ⟨_, rfl⟩
 have hb0 : Below w.heap.size w w0 := by rw [← e0]; exact (Below.refl _ _).alloc (Nat.le_refl _) _
 have hv0 : w0.heap[w.heap.size]? = some (.cells #[.int .i64 n] 136 (0, 0)) := by rw [← e0]; exact new_block _ _
 have hs0 : w0.heap.size = w.heap.size + 1 := by rw [← e0]; simp
 have hp0 := (hb0.block p hpl).trans hp
 have hq0 := (hb0.block q hql).trans hq
 go_upto_region 5 with fail
 have x0 : w0.cell? ⟨w.heap.size, 0, none⟩ = some (.int .i64 n) := by rw [Lib.cell_of_heap hv0]; rfl
 refine region_T 4 (fun w' => w'.cell? ⟨w.heap.size, 0, none⟩ = some (.int .i64 n)) (by kernel_rfl) x0 (fun inv hHeld => ?_)
 obtain ⟨wd, hwd⟩ : ∃ wd, w0.drew = wd := ⟨_, rfl⟩
 have hpd : wd.heap[p]? = some (.cells #[a0, a1, a2, a3, a4, a5] 46 (0, 0)) := by rw [← hwd]; exact hp0
 have hqd : wd.heap[q]? = some (.cells #[v0] 29 (0, 0)) := by rw [← hwd]; exact hq0
 have hvd : wd.heap[w.heap.size]? = some (.cells #[.int .i64 n] 136 (0, 0)) := by rw [← hwd]; exact hv0
 have hsd : wd.heap.size = w.heap.size + 1 := by rw [← hwd]; exact hs0
 have hbd : Below w.heap.size w wd := by rw [← hwd]; exact hb0.drew
 rw [hwd] at hHeld ⊢
 clear hwd hp0 hq0 hv0 hs0 hb0 e0 x0
 refine anyT_take (i := 0) (oi := { dst := some 16, op := Op.build 46 #[], type := 46, pos := "parse.go:34", after := #[], guard := none }) (v := ?_) rfl (by kernel_rfl) (by kernel_rfl) (by kernel_rfl) (by decide) (by decide) (by kernel_rfl) (by kernel_rfl) (fun _ _ _ h => h) (Or.inl ⟨by rfl, ?_⟩) hHeld inv (fun inv => ?_)
 rotate_left
 ·intro w hSw
  try dsimp only at hSw
  go_simp
  try with_reducible rfl
 simp only [Act.put, List.setIfInBounds_toArray, List.set_cons_zero, List.set_cons_succ]
 refine anyT_take (i := 1) (oi := { dst := some 17, op := Op.fieldAddr 136 (Operand.tmp 3) 0, type := 0, pos := "parse.go:34", after := #[{ on := 3, ground := Ground.gcOnly Departure.lateStores }], guard := none }) (v := ?_) rfl (by kernel_rfl) (by kernel_rfl) (by kernel_rfl) (by decide) (by decide) (by kernel_rfl) (by kernel_rfl) (fun _ _ _ h => h) (Or.inl ⟨by rfl, ?_⟩) hHeld inv (fun inv => ?_)
 rotate_left
 ·intro w hSw
  try dsimp only at hSw
  go_simp
  try with_reducible rfl
 simp only [Act.put, List.setIfInBounds_toArray, List.set_cons_zero, List.set_cons_succ]
 refine anyT_take (i := 2) (oi := { dst := some 18, op := Op.load 29 (Operand.tmp 17), type := 29, pos := "parse.go:34", after := #[{ on := 1, ground := Ground.data }, { on := 3, ground := Ground.gcOnly Departure.lateStores }], guard := none }) (v := ?_) rfl (by kernel_rfl) (by kernel_rfl) (by kernel_rfl) (by decide) (by decide) (by kernel_rfl) (by kernel_rfl) (fun _ _ _ h => h) (Or.inl ⟨by rfl, ?_⟩) hHeld inv (fun inv => ?_)
 rotate_left
 ·intro w hSw
  try dsimp only at hSw
  go_simp
  try with_reducible rfl
 simp only [Act.put, List.setIfInBounds_toArray, List.set_cons_zero, List.set_cons_succ]
 obtain ⟨n0, n1, n2, n3, n4, n5⟩ := cells6 hpd
 obtain ⟨f0, f1, f2, f3, f4, f5⟩ := frozen6 hpd
 obtain ⟨w8, e8, hz8, hg8, hs8⟩ := six hpd (.int .i64 0) (.int .u64 0) (.int .u64 0) (.int .u64 0) (.int .u64 0) (.slice none 0 0)
 have hq8 := (hg8.block q (by omega) (fun e => hpq (Option.some.inj e).symm)).trans hqd
 have hx8 := (hg8.block w.heap.size (by omega) (fun e => by have := Option.some.inj e; omega)).trans hvd
 have x8 : w8.cell? ⟨w.heap.size, 0, none⟩ = some (.int .i64 n) := by rw [Lib.cell_of_heap hx8]; rfl
 have y0 : w8.cell? ⟨q, 0, none⟩ = some v0 := by rw [Lib.cell_of_heap hq8]; rfl
 have z0 : w8.frozen? ⟨q, 0, none⟩ = false := Lib.frozen_of_heap hq8 0
 obtain ⟨w9, e9, hz9, hg9, hs9⟩ := one_cell hq8 (.int .i64 n)
 refine anyT_next (i := 3) (o := { dst := none, op := Op.store 46 (Operand.tmp 0) (Operand.tmp 16), type := 0, pos := "parse.go:34", after := #[{ on := 0, ground := Ground.data }, { on := 0, ground := Ground.phase }, { on := 1, ground := Ground.textOnly Departure.lateStores }, { on := 2, ground := Ground.textOnly Departure.lateStores }], guard := none }) (by kernel_rfl) rfl (by decide) inv (fun inv K' hK => ?_)
 go_simp
 refine hK.out _ _ x8 ?_
 clear hK K'
 try simp only [Act.put, List.setIfInBounds_toArray, List.set_cons_zero, List.set_cons_succ]
 refine anyT_one (i := 4) (o := { dst := none, op := Op.store 29 (Operand.tmp 1) (Operand.tmp 18), type := 0, pos := "parse.go:34", after := #[{ on := 2, ground := Ground.data }, { on := 3, ground := Ground.chain }, { on := 0, ground := Ground.phase }, { on := 1, ground := Ground.phase }, { on := 2, ground := Ground.phase }, { on := 3, ground := Ground.phase }], guard := none }) (by kernel_rfl) rfl (fun K' hK => ?_)
 go_simp
 refine hK.out _ _ (fun h => absurd h (by decide)) ?_
 clear hK K'
 try simp only [Act.put, List.setIfInBounds_toArray, List.set_cons_zero, List.set_cons_succ]
 refine anyT_done (by kernel_rfl) ?_ _
 show bodyPostS Tryz.prog Tryz.f80 c₀ cs _ Exit.normal _ _ w9
 have hp9 := (hg9.block p (by omega) (fun e => hpq (Option.some.inj e))).trans hz8
 have hG : Below w.heap.size w wd := hbd
 simp [bodyPostS, results, Tryz.results80]
 exact ⟨hp9, hz9, hg9.os.trans (hg8.os.trans hbd.os), hg9.tape.trans (hg8.tape.trans hbd.tape), hg9.output.trans (hg8.output.trans hbd.output), by omega, fun k hk h1 h2 => (hg9.block k (by omega) (fun e => h2 (Option.some.inj e))).trans ((hg8.block k (by omega) (fun e => h1 (Option.some.inj e))).trans (hbd.block k hk))⟩
end Go.Proofs.YtochckefnjobhaaGreatDoor
