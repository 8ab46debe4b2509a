/- regex's reader: an atom, given what reads ways. -/
import Derived.Test.YtochckefnjobhaaGreatDoorRk
import Derived.Test.YtochckefnjobhaaGreatDoorXd
namespace Go.Proofs.YtochckefnjobhaaGreatDoor
open Go Go.RowKit Go.Lib
set_option linter.unusedVariables false
theorem atom_at {W : Nat → X3.PR X3.RX} {s : ByteArray} {i : Nat} (hi : i < s.size) : X3.atomX W (LL s) i =
  if (s[i]'hi).toNat = 40 then (W (i + 1)).bind fun r k => (X3.take (LL s) k).bind fun c m => if c.toNat = 41 then .ok r m else .err 5
  else if (s[i]'hi).toNat = 91 then X3.itemsX (LL s) (i + 1)
  else if (s[i]'hi).toNat = 46 then .ok (X3.exceptX (X3.spanX 10 10)) (i + 1)
  else if (s[i]'hi).toNat = 92 then (X3.escX (LL s) (i + 1)).bind fun c k => .ok (X3.spanX c c) k
  else if (s[i]'hi).toNat = 93 ∨ (s[i]'hi).toNat = 42 ∨ (s[i]'hi).toNat = 43 ∨ (s[i]'hi).toNat = 63 ∨ (s[i]'hi).toNat = 124 ∨ (s[i]'hi).toNat = 41 then .err 5
  else .ok (X3.spanX (s[i]'hi).toNat (s[i]'hi).toNat) (i + 1) := by
 unfold X3.atomX; rw [x_take hi]; rfl
set_option maxRecDepth 100000 in
set_option maxHeartbeats 4000000 in
theorem atom_any (b : Nat) (s : ByteArray) (i : Nat) (w : World) (h : Rd b s i w) (hs : s.size ≤ maxLen) (hi : i ≤ s.size) (W : Nat → X3.PR X3.RX)
  (hW : ∀ (w : World) (k : Nat), i < k → Rd b s k w → k ≤ s.size → Calls Tryz.prog 81 #[.pointer (some ⟨b, 0, none⟩)] w (RP b s w (W k)))
  (hWle : i < s.size → ∀ j r, W (i + 1) = .ok r j → j ≤ s.size) :
  Calls Tryz.prog 118 #[.pointer (some ⟨b, 0, none⟩)] w (RP b s w (X3.atomX W (LL s) i)) := by
 have hbw : b < w.heap.size := (Array.getElem?_eq_some_iff.1 h).1
 have hbn : b ≠ w.heap.size := by omega
 have hne : w.heap.size ≠ b := by omega
 have HW := hid hW
 clear hW
 obtain ⟨w0, hw0⟩ : ∃ w0, w0 = w.alloc (.cells zero6 46) := ⟨_, rfl⟩
 have hg0 : Gr b w w0 := by rw [hw0]; exact gr_alloc (Gr.refl b w) _
 have h0 : Rd b s i w0 := by rw [hw0]; exact (Below.heap_alloc _ _ _ hbw).trans h
 have hz0 : w0.heap[w.heap.size]? = some (.cells zero6 46 (0, 0)) := by rw [hw0]; exact new_block _ _
 have hs0 : w0.heap.size = w.heap.size + 1 := by rw [hw0]; simp
 unfold zero6 at hw0
 by_cases hlt : i < s.size
 ·have k := hid (take_mid b s i w0 h0 hs hlt)
  have kf := hid fun w => fail_any b 5 w
  have ksp := hid fun (c : Nat) (hc : c < 256) w => span_any c c w hc hc
  have kby := hid fun a b c d w => bytesOf_any a b c d w
  have hx := (s[i]'hlt).toNat_lt
  rw [atom_at hlt]
  generalize (s[i]'hlt).toNat = x at *
  by_cases c40 : x = 40
  ·subst c40
   rw [if_pos rfl]
   cases hD : W (i + 1) with
   | err c =>
    show Calls _ _ _ _ (RP b s w (.err c))
    go_enter Tryz.func118, Tryz.ntmps118
    go_upto_region 1 with fail
    rw [← hw0]
    clear hw0
    go_wp2_with fail
    refine k.out.mono ?_
    rintro e w1 ⟨rfl, hr, hg⟩
    have hG1 : Gr b w w1 := World.grownBy.trans hg0 hg
    have hs1 : w.heap.size + 1 ≤ w1.heap.size := by have := hg.size; omega
    have hz1 := (hg.block w.heap.size (by omega) (fun e => hne (Option.some.inj e))).trans hz0
    go_wp2_with fail
    refine (HW.out _ (i + 1) (by omega) hr (by omega)).mono ?_
    intro e w2 h2
    rw [hD] at h2
    obtain ⟨rfl, hg2⟩ := h2
    exact ⟨rfl, rfl, World.grownBy.trans hG1 hg2⟩
   | ok r j =>
    show Calls _ _ _ _ (RP b s w ((X3.take (LL s) j).bind fun c m => if c.toNat = 41 then .ok r m else .err 5))
    by_cases hl2 : j < s.size
    ·rw [show (X3.take (LL s) j).bind (fun c m => if c.toNat = 41 then X3.PR.ok r m else .err 5) = (if (s[j]'hl2).toNat = 41 then X3.PR.ok r (j + 1) else .err 5) from by rw [x_take hl2]; rfl]
     have kt := hid fun (w : World) (h : Rd b s j w) => take_mid b s j w h hs hl2
     generalize (s[j]'hl2).toNat = y at *
     by_cases c41 : y = 41
     ·subst c41
      rw [if_pos rfl]
      go_enter Tryz.func118, Tryz.ntmps118
      go_upto_region 1 with fail
      rw [← hw0]
      clear hw0
      go_wp2_with fail
      refine k.out.mono ?_
      rintro e w1 ⟨rfl, hr, hg⟩
      have hG1 : Gr b w w1 := World.grownBy.trans hg0 hg
      have hs1 : w.heap.size + 1 ≤ w1.heap.size := by have := hg.size; omega
      have hz1 := (hg.block w.heap.size (by omega) (fun e => hne (Option.some.inj e))).trans hz0
      go_wp2_with fail
      refine (HW.out _ (i + 1) (by omega) hr (by omega)).mono ?_
      intro e w2 h2
      rw [hD] at h2
      obtain ⟨v, rfl, hRv, hr2, hg2, hj⟩ := h2
      obtain ⟨ka, kx, ky, kz, ku, ko, kn, kc, rfl⟩ := hRv.shape
      have hb2' : b < w2.heap.size := by have := hg2.size; omega
      obtain ⟨w4, hw4⟩ : ∃ w4, w4 = w2.alloc (.cells #[.int .i64 ka, .int .u64 kx, .int .u64 ky, .int .u64 kz, .int .u64 ku, .slice ko kn kc] 46) := ⟨_, rfl⟩
      have hg4 : Gr b w2 w4 := by rw [hw4]; exact gr_alloc (Gr.refl b w2) _
      have hr4 : Rd b s j w4 := by rw [hw4]; exact (Below.heap_alloc _ _ _ hb2').trans hr2
      have hv4 : w4.heap[w2.heap.size]? = some (.cells #[.int .i64 ka, .int .u64 kx, .int .u64 ky, .int .u64 kz, .int .u64 ku, .slice ko kn kc] 46 (0, 0)) := by rw [hw4]; exact new_block _ _
      have hs4 : w4.heap.size = w2.heap.size + 1 := by rw [hw4]; simp
      have hn2 : w2.heap.size ≠ b := by omega
      go_upto_region 6 with fail
      rw [← hw4]
      clear hw4
      go_wp2_with fail
      refine (kt.out _ hr4).mono ?_
      rintro e w3 ⟨rfl, hr5, hg3⟩
      have hv3 := (hg3.block w2.heap.size (by omega) (fun e => hn2 (Option.some.inj e))).trans hv4
      have p0 : w3.cell? ⟨w2.heap.size, 0, none⟩ = some (.int .i64 ka) := by rw [Lib.cell_of_heap hv3]; rfl
      have p1 : w3.cell? ⟨w2.heap.size, 1, none⟩ = some (.int .u64 kx) := by rw [Lib.cell_of_heap hv3]; rfl
      have p2 : w3.cell? ⟨w2.heap.size, 2, none⟩ = some (.int .u64 ky) := by rw [Lib.cell_of_heap hv3]; rfl
      have p3 : w3.cell? ⟨w2.heap.size, 3, none⟩ = some (.int .u64 kz) := by rw [Lib.cell_of_heap hv3]; rfl
      have p4 : w3.cell? ⟨w2.heap.size, 4, none⟩ = some (.int .u64 ku) := by rw [Lib.cell_of_heap hv3]; rfl
      have p5 : w3.cell? ⟨w2.heap.size, 5, none⟩ = some (.slice ko kn kc) := by rw [Lib.cell_of_heap hv3]; rfl
      have hgA : Gr b w1 w3 := World.grownBy.trans hg2 (World.grownBy.trans hg4 hg3)
      have hz3 := (hgA.block w.heap.size (by omega) (fun e => hne (Option.some.inj e))).trans hz1
      have hG3 : Gr b w w3 := World.grownBy.trans hG1 hgA
      have hs3 : w.heap.size + 1 ≤ w3.heap.size := by have := hgA.size; omega
      have hr3 : w3.heap[b]? = some (.cells #[.string s, .int .i64 (((j + 1) : Nat) : Int)] 96 (0, 0)) := hr5
      unfold zero6 at hz3
      have n0 : w3.cell? ⟨w.heap.size, 0, none⟩ = some (.int .i64 0) := by rw [Lib.cell_of_heap hz3]; rfl
      have f0 : w3.frozen? ⟨w.heap.size, 0, none⟩ = false := Lib.frozen_of_heap hz3 0
      have n1 : w3.cell? ⟨w.heap.size, 1, none⟩ = some (.int .u64 0) := by rw [Lib.cell_of_heap hz3]; rfl
      have f1 : w3.frozen? ⟨w.heap.size, 1, none⟩ = false := Lib.frozen_of_heap hz3 1
      have n2 : w3.cell? ⟨w.heap.size, 2, none⟩ = some (.int .u64 0) := by rw [Lib.cell_of_heap hz3]; rfl
      have f2 : w3.frozen? ⟨w.heap.size, 2, none⟩ = false := Lib.frozen_of_heap hz3 2
      have n3 : w3.cell? ⟨w.heap.size, 3, none⟩ = some (.int .u64 0) := by rw [Lib.cell_of_heap hz3]; rfl
      have f3 : w3.frozen? ⟨w.heap.size, 3, none⟩ = false := Lib.frozen_of_heap hz3 3
      have n4 : w3.cell? ⟨w.heap.size, 4, none⟩ = some (.int .u64 0) := by rw [Lib.cell_of_heap hz3]; rfl
      have f4 : w3.frozen? ⟨w.heap.size, 4, none⟩ = false := Lib.frozen_of_heap hz3 4
      have n5 : w3.cell? ⟨w.heap.size, 5, none⟩ = some noKids := by rw [Lib.cell_of_heap hz3]; rfl
      have f5 : w3.frozen? ⟨w.heap.size, 5, none⟩ = false := Lib.frozen_of_heap hz3 5
      go_wp2_with fail
      have z0 := heap_setCell_same w3 w.heap.size 0 _ 46 (.int .i64 ka) hz3
      have z1 := heap_setCell_same _ w.heap.size 1 _ 46 (.int .u64 kx) z0
      have z2 := heap_setCell_same _ w.heap.size 2 _ 46 (.int .u64 ky) z1
      have z3 := heap_setCell_same _ w.heap.size 3 _ 46 (.int .u64 kz) z2
      have z4 := heap_setCell_same _ w.heap.size 4 _ 46 (.int .u64 ku) z3
      have z5 := heap_setCell_same _ w.heap.size 5 _ 46 (.slice ko kn kc) z4
      have hG8 : Gr b w ((((((w3.setCell ⟨w.heap.size, 0, none⟩ (.int .i64 ka)).setCell ⟨w.heap.size, 1, none⟩ (.int .u64 kx)).setCell ⟨w.heap.size, 2, none⟩ (.int .u64 ky)).setCell ⟨w.heap.size, 3, none⟩ (.int .u64 kz)).setCell ⟨w.heap.size, 4, none⟩ (.int .u64 ku)).setCell ⟨w.heap.size, 5, none⟩ (.slice ko kn kc)) := gr_new (gr_new (gr_new (gr_new (gr_new (gr_new hG3 (Nat.le_refl _) 0 _) (Nat.le_refl _) 1 _) (Nat.le_refl _) 2 _) (Nat.le_refl _) 3 _) (Nat.le_refl _) 4 _) (Nat.le_refl _) 5 _
      have hr8 : Rd b s (j + 1) ((((((w3.setCell ⟨w.heap.size, 0, none⟩ (.int .i64 ka)).setCell ⟨w.heap.size, 1, none⟩ (.int .u64 kx)).setCell ⟨w.heap.size, 2, none⟩ (.int .u64 ky)).setCell ⟨w.heap.size, 3, none⟩ (.int .u64 kz)).setCell ⟨w.heap.size, 4, none⟩ (.int .u64 ku)).setCell ⟨w.heap.size, 5, none⟩ (.slice ko kn kc)) := (Below.heap_setCell _ _ _ _ hbn).trans ((Below.heap_setCell _ _ _ _ hbn).trans ((Below.heap_setCell _ _ _ _ hbn).trans ((Below.heap_setCell _ _ _ _ hbn).trans ((Below.heap_setCell _ _ _ _ hbn).trans ((Below.heap_setCell _ _ _ _ hbn).trans (hr3))))))
      have hk8 : Keep (w1.heap.size) w3 ((((((w3.setCell ⟨w.heap.size, 0, none⟩ (.int .i64 ka)).setCell ⟨w.heap.size, 1, none⟩ (.int .u64 kx)).setCell ⟨w.heap.size, 2, none⟩ (.int .u64 ky)).setCell ⟨w.heap.size, 3, none⟩ (.int .u64 kz)).setCell ⟨w.heap.size, 4, none⟩ (.int .u64 ku)).setCell ⟨w.heap.size, 5, none⟩ (.slice ko kn kc)) := ⟨by simp, fun g h1 h2 => (Below.heap_setCell _ _ _ _ (by show g ≠ w.heap.size; omega)).trans ((Below.heap_setCell _ _ _ _ (by show g ≠ w.heap.size; omega)).trans ((Below.heap_setCell _ _ _ _ (by show g ≠ w.heap.size; omega)).trans ((Below.heap_setCell _ _ _ _ (by show g ≠ w.heap.size; omega)).trans ((Below.heap_setCell _ _ _ _ (by show g ≠ w.heap.size; omega)).trans ((Below.heap_setCell _ _ _ _ (by show g ≠ w.heap.size; omega)).trans (rfl))))))⟩
      generalize ((((((w3.setCell ⟨w.heap.size, 0, none⟩ (.int .i64 ka)).setCell ⟨w.heap.size, 1, none⟩ (.int .u64 kx)).setCell ⟨w.heap.size, 2, none⟩ (.int .u64 ky)).setCell ⟨w.heap.size, 3, none⟩ (.int .u64 kz)).setCell ⟨w.heap.size, 4, none⟩ (.int .u64 ku)).setCell ⟨w.heap.size, 5, none⟩ (.slice ko kn kc)) = w8 at *
      have y0 : w8.cell? ⟨w.heap.size, 0, none⟩ = some (.int .i64 ka) := by rw [Lib.cell_of_heap z5]; rfl
      have y1 : w8.cell? ⟨w.heap.size, 1, none⟩ = some (.int .u64 kx) := by rw [Lib.cell_of_heap z5]; rfl
      have y2 : w8.cell? ⟨w.heap.size, 2, none⟩ = some (.int .u64 ky) := by rw [Lib.cell_of_heap z5]; rfl
      have y3 : w8.cell? ⟨w.heap.size, 3, none⟩ = some (.int .u64 kz) := by rw [Lib.cell_of_heap z5]; rfl
      have y4 : w8.cell? ⟨w.heap.size, 4, none⟩ = some (.int .u64 ku) := by rw [Lib.cell_of_heap z5]; rfl
      have y5 : w8.cell? ⟨w.heap.size, 5, none⟩ = some (.slice ko kn kc) := by rw [Lib.cell_of_heap z5]; rfl
      exact bodyPost_ret (v := .agg #[(.int .i64 ka), (.int .u64 kx), (.int .u64 ky), (.int .u64 kz), (.int .u64 ku), (.slice ko kn kc)]) (by simp [results, Tryz.results118, go_sem, y0, y1, y2, y3, y4, y5]) rfl ⟨_, rfl, (((hRv.kept (keep_gr (b := b) (by omega) (World.grownBy.trans hg4 hg3)))).kept hk8).mono (by omega), hr8, hG8, (by omega)⟩
     ·have n41 : ((y : Int) == 41) = false := by simp; omega
      rw [if_neg c41]
      go_enter Tryz.func118, Tryz.ntmps118
      go_upto_region 1 with fail
      rw [← hw0]
      clear hw0
      go_wp2_with fail
      refine k.out.mono ?_
      rintro e w1 ⟨rfl, hr, hg⟩
      have hG1 : Gr b w w1 := World.grownBy.trans hg0 hg
      have hs1 : w.heap.size + 1 ≤ w1.heap.size := by have := hg.size; omega
      have hz1 := (hg.block w.heap.size (by omega) (fun e => hne (Option.some.inj e))).trans hz0
      go_wp2_with fail
      refine (HW.out _ (i + 1) (by omega) hr (by omega)).mono ?_
      intro e w2 h2
      rw [hD] at h2
      obtain ⟨v, rfl, hRv, hr2, hg2, hj⟩ := h2
      obtain ⟨ka, kx, ky, kz, ku, ko, kn, kc, rfl⟩ := hRv.shape
      have hb2' : b < w2.heap.size := by have := hg2.size; omega
      obtain ⟨w4, hw4⟩ : ∃ w4, w4 = w2.alloc (.cells #[.int .i64 ka, .int .u64 kx, .int .u64 ky, .int .u64 kz, .int .u64 ku, .slice ko kn kc] 46) := ⟨_, rfl⟩
      have hg4 : Gr b w2 w4 := by rw [hw4]; exact gr_alloc (Gr.refl b w2) _
      have hr4 : Rd b s j w4 := by rw [hw4]; exact (Below.heap_alloc _ _ _ hb2').trans hr2
      have hv4 : w4.heap[w2.heap.size]? = some (.cells #[.int .i64 ka, .int .u64 kx, .int .u64 ky, .int .u64 kz, .int .u64 ku, .slice ko kn kc] 46 (0, 0)) := by rw [hw4]; exact new_block _ _
      have hs4 : w4.heap.size = w2.heap.size + 1 := by rw [hw4]; simp
      have hn2 : w2.heap.size ≠ b := by omega
      go_upto_region 6 with fail
      rw [← hw4]
      clear hw4
      go_wp2_with fail
      refine (kt.out _ hr4).mono ?_
      rintro e w3 ⟨rfl, hr5, hg3⟩
      go_wp2_with fail
      refine (kf.out _).mono ?_
      rintro e w5 ⟨rfl, rfl⟩
      exact ⟨rfl, rfl, World.grownBy.trans hG1 (World.grownBy.trans hg2 (World.grownBy.trans hg4 hg3))⟩
    ·obtain rfl : j = s.size := by
      have hj' : j ≤ s.size := hWle hlt j r hD
      omega
     have kt := hid fun (w : World) (h : Rd b s s.size w) => take_end b s w h hs
     rw [show (X3.take (LL s) s.size).bind (fun c m => if c.toNat = 41 then X3.PR.ok r m else .err 5) = .err 5 from by rw [x_take_end]; rfl]
     go_enter Tryz.func118, Tryz.ntmps118
     go_upto_region 1 with fail
     rw [← hw0]
     clear hw0
     go_wp2_with fail
     refine k.out.mono ?_
     rintro e w1 ⟨rfl, hr, hg⟩
     have hG1 : Gr b w w1 := World.grownBy.trans hg0 hg
     have hs1 : w.heap.size + 1 ≤ w1.heap.size := by have := hg.size; omega
     have hz1 := (hg.block w.heap.size (by omega) (fun e => hne (Option.some.inj e))).trans hz0
     go_wp2_with fail
     refine (HW.out _ (i + 1) (by omega) hr (by omega)).mono ?_
     intro e w2 h2
     rw [hD] at h2
     obtain ⟨v, rfl, hRv, hr2, hg2, hj⟩ := h2
     obtain ⟨ka, kx, ky, kz, ku, ko, kn, kc, rfl⟩ := hRv.shape
     have hb2' : b < w2.heap.size := by have := hg2.size; omega
     obtain ⟨w4, hw4⟩ : ∃ w4, w4 = w2.alloc (.cells #[.int .i64 ka, .int .u64 kx, .int .u64 ky, .int .u64 kz, .int .u64 ku, .slice ko kn kc] 46) := ⟨_, rfl⟩
     have hg4 : Gr b w2 w4 := by rw [hw4]; exact gr_alloc (Gr.refl b w2) _
     have hr4 : Rd b s s.size w4 := by rw [hw4]; exact (Below.heap_alloc _ _ _ hb2').trans hr2
     have hv4 : w4.heap[w2.heap.size]? = some (.cells #[.int .i64 ka, .int .u64 kx, .int .u64 ky, .int .u64 kz, .int .u64 ku, .slice ko kn kc] 46 (0, 0)) := by rw [hw4]; exact new_block _ _
     have hs4 : w4.heap.size = w2.heap.size + 1 := by rw [hw4]; simp
     have hn2 : w2.heap.size ≠ b := by omega
     go_upto_region 6 with fail
     rw [← hw4]
     clear hw4
     go_wp2_with fail
     refine (kt.out _ hr4).mono ?_
     rintro e w3 ⟨rfl, hg3⟩
     exact ⟨rfl, rfl, World.grownBy.trans hG1 (World.grownBy.trans hg2 (World.grownBy.trans hg4 hg3))⟩
  rw [if_neg c40]
  have n40' : ((x : Int) == 40) = false := by simp; omega
  by_cases c91 : x = 91
  ·subst c91
   rw [if_pos rfl]
   have ki := hid fun i w h hi => items_any b s i w h hs hi
   cases hD : X3.itemsX (LL s) (i + 1) with
   | err c =>
    go_enter Tryz.func118, Tryz.ntmps118
    go_upto_region 1 with fail
    rw [← hw0]
    clear hw0
    go_wp2_with fail
    refine k.out.mono ?_
    rintro e w1 ⟨rfl, hr, hg⟩
    have hG1 : Gr b w w1 := World.grownBy.trans hg0 hg
    have hs1 : w.heap.size + 1 ≤ w1.heap.size := by have := hg.size; omega
    have hz1 := (hg.block w.heap.size (by omega) (fun e => hne (Option.some.inj e))).trans hz0
    go_wp2_with fail
    refine (ki.out (i + 1) _ hr (by omega)).mono ?_
    intro e w2 h2
    rw [hD] at h2
    obtain ⟨rfl, hg2⟩ := h2
    exact ⟨rfl, rfl, World.grownBy.trans hG1 hg2⟩
   | ok r j =>
    go_enter Tryz.func118, Tryz.ntmps118
    go_upto_region 1 with fail
    rw [← hw0]
    clear hw0
    go_wp2_with fail
    refine k.out.mono ?_
    rintro e w1 ⟨rfl, hr, hg⟩
    have hG1 : Gr b w w1 := World.grownBy.trans hg0 hg
    have hs1 : w.heap.size + 1 ≤ w1.heap.size := by have := hg.size; omega
    have hz1 := (hg.block w.heap.size (by omega) (fun e => hne (Option.some.inj e))).trans hz0
    go_wp2_with fail
    refine (ki.out (i + 1) _ hr (by omega)).mono ?_
    intro e w2 h2
    rw [hD] at h2
    obtain ⟨v, rfl, hRv, hr2, hg2, hj⟩ := h2
    obtain ⟨ka, kx, ky, kz, ku, ko, kn, kc, rfl⟩ := hRv.shape
    have hgA : Gr b w1 w2 := hg2
    have hz3 := (hgA.block w.heap.size (by omega) (fun e => hne (Option.some.inj e))).trans hz1
    have hG3 : Gr b w w2 := World.grownBy.trans hG1 hgA
    have hs3 : w.heap.size + 1 ≤ w2.heap.size := by have := hgA.size; omega
    have hr3 : w2.heap[b]? = some (.cells #[.string s, .int .i64 ((j : Nat) : Int)] 96 (0, 0)) := hr2
    unfold zero6 at hz3
    have n0 : w2.cell? ⟨w.heap.size, 0, none⟩ = some (.int .i64 0) := by rw [Lib.cell_of_heap hz3]; rfl
    have f0 : w2.frozen? ⟨w.heap.size, 0, none⟩ = false := Lib.frozen_of_heap hz3 0
    have n1 : w2.cell? ⟨w.heap.size, 1, none⟩ = some (.int .u64 0) := by rw [Lib.cell_of_heap hz3]; rfl
    have f1 : w2.frozen? ⟨w.heap.size, 1, none⟩ = false := Lib.frozen_of_heap hz3 1
    have n2 : w2.cell? ⟨w.heap.size, 2, none⟩ = some (.int .u64 0) := by rw [Lib.cell_of_heap hz3]; rfl
    have f2 : w2.frozen? ⟨w.heap.size, 2, none⟩ = false := Lib.frozen_of_heap hz3 2
    have n3 : w2.cell? ⟨w.heap.size, 3, none⟩ = some (.int .u64 0) := by rw [Lib.cell_of_heap hz3]; rfl
    have f3 : w2.frozen? ⟨w.heap.size, 3, none⟩ = false := Lib.frozen_of_heap hz3 3
    have n4 : w2.cell? ⟨w.heap.size, 4, none⟩ = some (.int .u64 0) := by rw [Lib.cell_of_heap hz3]; rfl
    have f4 : w2.frozen? ⟨w.heap.size, 4, none⟩ = false := Lib.frozen_of_heap hz3 4
    have n5 : w2.cell? ⟨w.heap.size, 5, none⟩ = some noKids := by rw [Lib.cell_of_heap hz3]; rfl
    have f5 : w2.frozen? ⟨w.heap.size, 5, none⟩ = false := Lib.frozen_of_heap hz3 5
    go_wp2_with fail
    have z0 := heap_setCell_same w2 w.heap.size 0 _ 46 (.int .i64 ka) hz3
    have z1 := heap_setCell_same _ w.heap.size 1 _ 46 (.int .u64 kx) z0
    have z2 := heap_setCell_same _ w.heap.size 2 _ 46 (.int .u64 ky) z1
    have z3 := heap_setCell_same _ w.heap.size 3 _ 46 (.int .u64 kz) z2
    have z4 := heap_setCell_same _ w.heap.size 4 _ 46 (.int .u64 ku) z3
    have z5 := heap_setCell_same _ w.heap.size 5 _ 46 (.slice ko kn kc) z4
    have hG8 : Gr b w ((((((w2.setCell ⟨w.heap.size, 0, none⟩ (.int .i64 ka)).setCell ⟨w.heap.size, 1, none⟩ (.int .u64 kx)).setCell ⟨w.heap.size, 2, none⟩ (.int .u64 ky)).setCell ⟨w.heap.size, 3, none⟩ (.int .u64 kz)).setCell ⟨w.heap.size, 4, none⟩ (.int .u64 ku)).setCell ⟨w.heap.size, 5, none⟩ (.slice ko kn kc)) := gr_new (gr_new (gr_new (gr_new (gr_new (gr_new hG3 (Nat.le_refl _) 0 _) (Nat.le_refl _) 1 _) (Nat.le_refl _) 2 _) (Nat.le_refl _) 3 _) (Nat.le_refl _) 4 _) (Nat.le_refl _) 5 _
    have hr8 : Rd b s j ((((((w2.setCell ⟨w.heap.size, 0, none⟩ (.int .i64 ka)).setCell ⟨w.heap.size, 1, none⟩ (.int .u64 kx)).setCell ⟨w.heap.size, 2, none⟩ (.int .u64 ky)).setCell ⟨w.heap.size, 3, none⟩ (.int .u64 kz)).setCell ⟨w.heap.size, 4, none⟩ (.int .u64 ku)).setCell ⟨w.heap.size, 5, none⟩ (.slice ko kn kc)) := (Below.heap_setCell _ _ _ _ hbn).trans ((Below.heap_setCell _ _ _ _ hbn).trans ((Below.heap_setCell _ _ _ _ hbn).trans ((Below.heap_setCell _ _ _ _ hbn).trans ((Below.heap_setCell _ _ _ _ hbn).trans ((Below.heap_setCell _ _ _ _ hbn).trans (hr3))))))
    have hk8 : Keep (w1.heap.size) w2 ((((((w2.setCell ⟨w.heap.size, 0, none⟩ (.int .i64 ka)).setCell ⟨w.heap.size, 1, none⟩ (.int .u64 kx)).setCell ⟨w.heap.size, 2, none⟩ (.int .u64 ky)).setCell ⟨w.heap.size, 3, none⟩ (.int .u64 kz)).setCell ⟨w.heap.size, 4, none⟩ (.int .u64 ku)).setCell ⟨w.heap.size, 5, none⟩ (.slice ko kn kc)) := ⟨by simp, fun g h1 h2 => (Below.heap_setCell _ _ _ _ (by show g ≠ w.heap.size; omega)).trans ((Below.heap_setCell _ _ _ _ (by show g ≠ w.heap.size; omega)).trans ((Below.heap_setCell _ _ _ _ (by show g ≠ w.heap.size; omega)).trans ((Below.heap_setCell _ _ _ _ (by show g ≠ w.heap.size; omega)).trans ((Below.heap_setCell _ _ _ _ (by show g ≠ w.heap.size; omega)).trans ((Below.heap_setCell _ _ _ _ (by show g ≠ w.heap.size; omega)).trans (rfl))))))⟩
    generalize ((((((w2.setCell ⟨w.heap.size, 0, none⟩ (.int .i64 ka)).setCell ⟨w.heap.size, 1, none⟩ (.int .u64 kx)).setCell ⟨w.heap.size, 2, none⟩ (.int .u64 ky)).setCell ⟨w.heap.size, 3, none⟩ (.int .u64 kz)).setCell ⟨w.heap.size, 4, none⟩ (.int .u64 ku)).setCell ⟨w.heap.size, 5, none⟩ (.slice ko kn kc)) = w8 at *
    have y0 : w8.cell? ⟨w.heap.size, 0, none⟩ = some (.int .i64 ka) := by rw [Lib.cell_of_heap z5]; rfl
    have y1 : w8.cell? ⟨w.heap.size, 1, none⟩ = some (.int .u64 kx) := by rw [Lib.cell_of_heap z5]; rfl
    have y2 : w8.cell? ⟨w.heap.size, 2, none⟩ = some (.int .u64 ky) := by rw [Lib.cell_of_heap z5]; rfl
    have y3 : w8.cell? ⟨w.heap.size, 3, none⟩ = some (.int .u64 kz) := by rw [Lib.cell_of_heap z5]; rfl
    have y4 : w8.cell? ⟨w.heap.size, 4, none⟩ = some (.int .u64 ku) := by rw [Lib.cell_of_heap z5]; rfl
    have y5 : w8.cell? ⟨w.heap.size, 5, none⟩ = some (.slice ko kn kc) := by rw [Lib.cell_of_heap z5]; rfl
    exact bodyPost_ret (v := .agg #[(.int .i64 ka), (.int .u64 kx), (.int .u64 ky), (.int .u64 kz), (.int .u64 ku), (.slice ko kn kc)]) (by simp [results, Tryz.results118, go_sem, y0, y1, y2, y3, y4, y5]) rfl ⟨_, rfl, ((hRv).kept hk8).mono (by omega), hr8, hG8, hj⟩
  rw [if_neg c91]
  have n91' : ((x : Int) == 91) = false := by simp; omega
  by_cases c46 : x = 46
  ·subst c46
   rw [if_pos rfl]
   go_enter Tryz.func118, Tryz.ntmps118
   go_upto_region 1 with fail
   rw [← hw0]
   clear hw0
   go_wp2_with fail
   refine k.out.mono ?_
   rintro e w1 ⟨rfl, hr, hg⟩
   have hG1 : Gr b w w1 := World.grownBy.trans hg0 hg
   have hs1 : w.heap.size + 1 ≤ w1.heap.size := by have := hg.size; omega
   have hz1 := (hg.block w.heap.size (by omega) (fun e => hne (Option.some.inj e))).trans hz0
   go_wp2_with fail
   refine (ksp.out 10 (by decide) _).mono ?_
   rintro e w2 ⟨rfl, hb2⟩
   go_wp2_with fail
   refine (except_any _ _ _ _ _ (X3.bits_lt _ _ _) (X3.bits_lt _ _ _) (X3.bits_lt _ _ _) (X3.bits_lt _ _ _)).mono ?_
   rintro e w4 ⟨rfl, hb4⟩
   go_wp2_with fail
   refine (kby.out _ _ _ _ _).mono ?_
   rintro e w3 ⟨rfl, hb3⟩
   have hb1' : b < w1.heap.size := by omega
   have hb2' : b < w2.heap.size := by have := hb2.size; omega
   have hb4' : b < w4.heap.size := by have := hb4.size; omega
   have hgA : Gr b w1 w3 := World.grownBy.trans (gr_below hb2) (World.grownBy.trans (gr_below hb4) (gr_below hb3))
   have hz3 := (hgA.block w.heap.size (by omega) (fun e => hne (Option.some.inj e))).trans hz1
   have hG3 : Gr b w w3 := World.grownBy.trans hG1 hgA
   have hs3 : w.heap.size + 1 ≤ w3.heap.size := by have := hgA.size; omega
   have hr3 : w3.heap[b]? = some (.cells #[.string s, .int .i64 (((i + 1) : Nat) : Int)] 96 (0, 0)) := (hb3.block b hb4').trans ((hb4.block b hb2').trans ((hb2.block b hb1').trans hr))
   unfold zero6 at hz3
   have n0 : w3.cell? ⟨w.heap.size, 0, none⟩ = some (.int .i64 0) := by rw [Lib.cell_of_heap hz3]; rfl
   have f0 : w3.frozen? ⟨w.heap.size, 0, none⟩ = false := Lib.frozen_of_heap hz3 0
   have n1 : w3.cell? ⟨w.heap.size, 1, none⟩ = some (.int .u64 0) := by rw [Lib.cell_of_heap hz3]; rfl
   have f1 : w3.frozen? ⟨w.heap.size, 1, none⟩ = false := Lib.frozen_of_heap hz3 1
   have n2 : w3.cell? ⟨w.heap.size, 2, none⟩ = some (.int .u64 0) := by rw [Lib.cell_of_heap hz3]; rfl
   have f2 : w3.frozen? ⟨w.heap.size, 2, none⟩ = false := Lib.frozen_of_heap hz3 2
   have n3 : w3.cell? ⟨w.heap.size, 3, none⟩ = some (.int .u64 0) := by rw [Lib.cell_of_heap hz3]; rfl
   have f3 : w3.frozen? ⟨w.heap.size, 3, none⟩ = false := Lib.frozen_of_heap hz3 3
   have n4 : w3.cell? ⟨w.heap.size, 4, none⟩ = some (.int .u64 0) := by rw [Lib.cell_of_heap hz3]; rfl
   have f4 : w3.frozen? ⟨w.heap.size, 4, none⟩ = false := Lib.frozen_of_heap hz3 4
   have n5 : w3.cell? ⟨w.heap.size, 5, none⟩ = some noKids := by rw [Lib.cell_of_heap hz3]; rfl
   have f5 : w3.frozen? ⟨w.heap.size, 5, none⟩ = false := Lib.frozen_of_heap hz3 5
   go_wp2_with fail
   have z0 := heap_setCell_same w3 w.heap.size 0 _ 46 (.int .i64 1) hz3
   have z1 := heap_setCell_same _ w.heap.size 1 _ 46 (.int .u64 ((X3.full ^^^ X3.bitsOf 10 10 0) : Nat)) z0
   have z2 := heap_setCell_same _ w.heap.size 2 _ 46 (.int .u64 ((X3.full ^^^ X3.bitsOf 10 10 1) : Nat)) z1
   have z3 := heap_setCell_same _ w.heap.size 3 _ 46 (.int .u64 ((X3.full ^^^ X3.bitsOf 10 10 2) : Nat)) z2
   have z4 := heap_setCell_same _ w.heap.size 4 _ 46 (.int .u64 ((X3.full ^^^ X3.bitsOf 10 10 3) : Nat)) z3
   have z5 := heap_setCell_same _ w.heap.size 5 _ 46 (noKids) z4
   have hG8 : Gr b w ((((((w3.setCell ⟨w.heap.size, 0, none⟩ (.int .i64 1)).setCell ⟨w.heap.size, 1, none⟩ (.int .u64 ((X3.full ^^^ X3.bitsOf 10 10 0) : Nat))).setCell ⟨w.heap.size, 2, none⟩ (.int .u64 ((X3.full ^^^ X3.bitsOf 10 10 1) : Nat))).setCell ⟨w.heap.size, 3, none⟩ (.int .u64 ((X3.full ^^^ X3.bitsOf 10 10 2) : Nat))).setCell ⟨w.heap.size, 4, none⟩ (.int .u64 ((X3.full ^^^ X3.bitsOf 10 10 3) : Nat))).setCell ⟨w.heap.size, 5, none⟩ (noKids)) := gr_new (gr_new (gr_new (gr_new (gr_new (gr_new hG3 (Nat.le_refl _) 0 _) (Nat.le_refl _) 1 _) (Nat.le_refl _) 2 _) (Nat.le_refl _) 3 _) (Nat.le_refl _) 4 _) (Nat.le_refl _) 5 _
   have hr8 : Rd b s (i + 1) ((((((w3.setCell ⟨w.heap.size, 0, none⟩ (.int .i64 1)).setCell ⟨w.heap.size, 1, none⟩ (.int .u64 ((X3.full ^^^ X3.bitsOf 10 10 0) : Nat))).setCell ⟨w.heap.size, 2, none⟩ (.int .u64 ((X3.full ^^^ X3.bitsOf 10 10 1) : Nat))).setCell ⟨w.heap.size, 3, none⟩ (.int .u64 ((X3.full ^^^ X3.bitsOf 10 10 2) : Nat))).setCell ⟨w.heap.size, 4, none⟩ (.int .u64 ((X3.full ^^^ X3.bitsOf 10 10 3) : Nat))).setCell ⟨w.heap.size, 5, none⟩ (noKids)) := (Below.heap_setCell _ _ _ _ hbn).trans ((Below.heap_setCell _ _ _ _ hbn).trans ((Below.heap_setCell _ _ _ _ hbn).trans ((Below.heap_setCell _ _ _ _ hbn).trans ((Below.heap_setCell _ _ _ _ hbn).trans ((Below.heap_setCell _ _ _ _ hbn).trans (hr3))))))
   have hk8 : Keep (w.heap.size + 1) w3 ((((((w3.setCell ⟨w.heap.size, 0, none⟩ (.int .i64 1)).setCell ⟨w.heap.size, 1, none⟩ (.int .u64 ((X3.full ^^^ X3.bitsOf 10 10 0) : Nat))).setCell ⟨w.heap.size, 2, none⟩ (.int .u64 ((X3.full ^^^ X3.bitsOf 10 10 1) : Nat))).setCell ⟨w.heap.size, 3, none⟩ (.int .u64 ((X3.full ^^^ X3.bitsOf 10 10 2) : Nat))).setCell ⟨w.heap.size, 4, none⟩ (.int .u64 ((X3.full ^^^ X3.bitsOf 10 10 3) : Nat))).setCell ⟨w.heap.size, 5, none⟩ (noKids)) := ⟨by simp, fun g h1 h2 => (Below.heap_setCell _ _ _ _ (by show g ≠ w.heap.size; omega)).trans ((Below.heap_setCell _ _ _ _ (by show g ≠ w.heap.size; omega)).trans ((Below.heap_setCell _ _ _ _ (by show g ≠ w.heap.size; omega)).trans ((Below.heap_setCell _ _ _ _ (by show g ≠ w.heap.size; omega)).trans ((Below.heap_setCell _ _ _ _ (by show g ≠ w.heap.size; omega)).trans ((Below.heap_setCell _ _ _ _ (by show g ≠ w.heap.size; omega)).trans (rfl))))))⟩
   generalize ((((((w3.setCell ⟨w.heap.size, 0, none⟩ (.int .i64 1)).setCell ⟨w.heap.size, 1, none⟩ (.int .u64 ((X3.full ^^^ X3.bitsOf 10 10 0) : Nat))).setCell ⟨w.heap.size, 2, none⟩ (.int .u64 ((X3.full ^^^ X3.bitsOf 10 10 1) : Nat))).setCell ⟨w.heap.size, 3, none⟩ (.int .u64 ((X3.full ^^^ X3.bitsOf 10 10 2) : Nat))).setCell ⟨w.heap.size, 4, none⟩ (.int .u64 ((X3.full ^^^ X3.bitsOf 10 10 3) : Nat))).setCell ⟨w.heap.size, 5, none⟩ (noKids)) = w8 at *
   have y0 : w8.cell? ⟨w.heap.size, 0, none⟩ = some (.int .i64 1) := by rw [Lib.cell_of_heap z5]; rfl
   have y1 : w8.cell? ⟨w.heap.size, 1, none⟩ = some (.int .u64 ((X3.full ^^^ X3.bitsOf 10 10 0) : Nat)) := by rw [Lib.cell_of_heap z5]; rfl
   have y2 : w8.cell? ⟨w.heap.size, 2, none⟩ = some (.int .u64 ((X3.full ^^^ X3.bitsOf 10 10 1) : Nat)) := by rw [Lib.cell_of_heap z5]; rfl
   have y3 : w8.cell? ⟨w.heap.size, 3, none⟩ = some (.int .u64 ((X3.full ^^^ X3.bitsOf 10 10 2) : Nat)) := by rw [Lib.cell_of_heap z5]; rfl
   have y4 : w8.cell? ⟨w.heap.size, 4, none⟩ = some (.int .u64 ((X3.full ^^^ X3.bitsOf 10 10 3) : Nat)) := by rw [Lib.cell_of_heap z5]; rfl
   have y5 : w8.cell? ⟨w.heap.size, 5, none⟩ = some (noKids) := by rw [Lib.cell_of_heap z5]; rfl
   exact bodyPost_ret (v := .agg #[(.int .i64 1), (.int .u64 ((X3.full ^^^ X3.bitsOf 10 10 0) : Nat)), (.int .u64 ((X3.full ^^^ X3.bitsOf 10 10 1) : Nat)), (.int .u64 ((X3.full ^^^ X3.bitsOf 10 10 2) : Nat)), (.int .u64 ((X3.full ^^^ X3.bitsOf 10 10 3) : Nat)), (noKids)]) (by simp [results, Tryz.results118, go_sem, y0, y1, y2, y3, y4, y5]) rfl ⟨_, rfl, ((Rep.bytes _ _ _ _ (xor_lt (X3.bits_lt _ _ _)) (xor_lt (X3.bits_lt _ _ _)) (xor_lt (X3.bits_lt _ _ _)) (xor_lt (X3.bits_lt _ _ _)) ).kept hk8).mono (by omega), hr8, hG8, (by omega)⟩
  rw [if_neg c46]
  have n46' : ((x : Int) == 46) = false := by simp; omega
  by_cases c92 : x = 92
  ·subst c92
   rw [if_pos rfl]
   have ke := hid fun i w h hi => escaped_any b s i w h hs hi
   cases hD : X3.escX (LL s) (i + 1) with
   | err c =>
    show Calls _ _ _ _ (RP b s w (.err c))
    go_enter Tryz.func118, Tryz.ntmps118
    go_upto_region 1 with fail
    rw [← hw0]
    clear hw0
    go_wp2_with fail
    refine k.out.mono ?_
    rintro e w1 ⟨rfl, hr, hg⟩
    have hG1 : Gr b w w1 := World.grownBy.trans hg0 hg
    have hs1 : w.heap.size + 1 ≤ w1.heap.size := by have := hg.size; omega
    have hz1 := (hg.block w.heap.size (by omega) (fun e => hne (Option.some.inj e))).trans hz0
    go_wp2_with fail
    refine (ke.out (i + 1) _ hr (by omega)).mono ?_
    intro e w2 h2
    rw [hD] at h2
    obtain ⟨rfl, hg2⟩ := h2
    exact ⟨rfl, rfl, World.grownBy.trans hG1 hg2⟩
   | ok q j =>
    show Calls _ _ _ _ (RP b s w (.ok (X3.spanX q q) j))
    go_enter Tryz.func118, Tryz.ntmps118
    go_upto_region 1 with fail
    rw [← hw0]
    clear hw0
    go_wp2_with fail
    refine k.out.mono ?_
    rintro e w1 ⟨rfl, hr, hg⟩
    have hG1 : Gr b w w1 := World.grownBy.trans hg0 hg
    have hs1 : w.heap.size + 1 ≤ w1.heap.size := by have := hg.size; omega
    have hz1 := (hg.block w.heap.size (by omega) (fun e => hne (Option.some.inj e))).trans hz0
    go_wp2_with fail
    refine (ke.out (i + 1) _ hr (by omega)).mono ?_
    intro e w2 h2
    rw [hD] at h2
    obtain ⟨rfl, hr2, hg2, hj, hq⟩ := h2
    go_wp2_with fail
    refine (ksp.out q hq _).mono ?_
    rintro e w4 ⟨rfl, hb4⟩
    go_wp2_with fail
    refine (kby.out _ _ _ _ _).mono ?_
    rintro e w3 ⟨rfl, hb3⟩
    have hb2' : b < w2.heap.size := by have := hg2.size; omega
    have hb4' : b < w4.heap.size := by have := hb4.size; omega
    have hgA : Gr b w1 w3 := World.grownBy.trans hg2 (World.grownBy.trans (gr_below hb4) (gr_below hb3))
    have hz3 := (hgA.block w.heap.size (by omega) (fun e => hne (Option.some.inj e))).trans hz1
    have hG3 : Gr b w w3 := World.grownBy.trans hG1 hgA
    have hs3 : w.heap.size + 1 ≤ w3.heap.size := by have := hgA.size; omega
    have hr3 : w3.heap[b]? = some (.cells #[.string s, .int .i64 ((j : Nat) : Int)] 96 (0, 0)) := (hb3.block b hb4').trans ((hb4.block b hb2').trans hr2)
    unfold zero6 at hz3
    have n0 : w3.cell? ⟨w.heap.size, 0, none⟩ = some (.int .i64 0) := by rw [Lib.cell_of_heap hz3]; rfl
    have f0 : w3.frozen? ⟨w.heap.size, 0, none⟩ = false := Lib.frozen_of_heap hz3 0
    have n1 : w3.cell? ⟨w.heap.size, 1, none⟩ = some (.int .u64 0) := by rw [Lib.cell_of_heap hz3]; rfl
    have f1 : w3.frozen? ⟨w.heap.size, 1, none⟩ = false := Lib.frozen_of_heap hz3 1
    have n2 : w3.cell? ⟨w.heap.size, 2, none⟩ = some (.int .u64 0) := by rw [Lib.cell_of_heap hz3]; rfl
    have f2 : w3.frozen? ⟨w.heap.size, 2, none⟩ = false := Lib.frozen_of_heap hz3 2
    have n3 : w3.cell? ⟨w.heap.size, 3, none⟩ = some (.int .u64 0) := by rw [Lib.cell_of_heap hz3]; rfl
    have f3 : w3.frozen? ⟨w.heap.size, 3, none⟩ = false := Lib.frozen_of_heap hz3 3
    have n4 : w3.cell? ⟨w.heap.size, 4, none⟩ = some (.int .u64 0) := by rw [Lib.cell_of_heap hz3]; rfl
    have f4 : w3.frozen? ⟨w.heap.size, 4, none⟩ = false := Lib.frozen_of_heap hz3 4
    have n5 : w3.cell? ⟨w.heap.size, 5, none⟩ = some noKids := by rw [Lib.cell_of_heap hz3]; rfl
    have f5 : w3.frozen? ⟨w.heap.size, 5, none⟩ = false := Lib.frozen_of_heap hz3 5
    go_wp2_with fail
    have z0 := heap_setCell_same w3 w.heap.size 0 _ 46 (.int .i64 1) hz3
    have z1 := heap_setCell_same _ w.heap.size 1 _ 46 (.int .u64 ((X3.bitsOf q q 0) : Nat)) z0
    have z2 := heap_setCell_same _ w.heap.size 2 _ 46 (.int .u64 ((X3.bitsOf q q 1) : Nat)) z1
    have z3 := heap_setCell_same _ w.heap.size 3 _ 46 (.int .u64 ((X3.bitsOf q q 2) : Nat)) z2
    have z4 := heap_setCell_same _ w.heap.size 4 _ 46 (.int .u64 ((X3.bitsOf q q 3) : Nat)) z3
    have z5 := heap_setCell_same _ w.heap.size 5 _ 46 (noKids) z4
    have hG8 : Gr b w ((((((w3.setCell ⟨w.heap.size, 0, none⟩ (.int .i64 1)).setCell ⟨w.heap.size, 1, none⟩ (.int .u64 ((X3.bitsOf q q 0) : Nat))).setCell ⟨w.heap.size, 2, none⟩ (.int .u64 ((X3.bitsOf q q 1) : Nat))).setCell ⟨w.heap.size, 3, none⟩ (.int .u64 ((X3.bitsOf q q 2) : Nat))).setCell ⟨w.heap.size, 4, none⟩ (.int .u64 ((X3.bitsOf q q 3) : Nat))).setCell ⟨w.heap.size, 5, none⟩ (noKids)) := gr_new (gr_new (gr_new (gr_new (gr_new (gr_new hG3 (Nat.le_refl _) 0 _) (Nat.le_refl _) 1 _) (Nat.le_refl _) 2 _) (Nat.le_refl _) 3 _) (Nat.le_refl _) 4 _) (Nat.le_refl _) 5 _
    have hr8 : Rd b s j ((((((w3.setCell ⟨w.heap.size, 0, none⟩ (.int .i64 1)).setCell ⟨w.heap.size, 1, none⟩ (.int .u64 ((X3.bitsOf q q 0) : Nat))).setCell ⟨w.heap.size, 2, none⟩ (.int .u64 ((X3.bitsOf q q 1) : Nat))).setCell ⟨w.heap.size, 3, none⟩ (.int .u64 ((X3.bitsOf q q 2) : Nat))).setCell ⟨w.heap.size, 4, none⟩ (.int .u64 ((X3.bitsOf q q 3) : Nat))).setCell ⟨w.heap.size, 5, none⟩ (noKids)) := (Below.heap_setCell _ _ _ _ hbn).trans ((Below.heap_setCell _ _ _ _ hbn).trans ((Below.heap_setCell _ _ _ _ hbn).trans ((Below.heap_setCell _ _ _ _ hbn).trans ((Below.heap_setCell _ _ _ _ hbn).trans ((Below.heap_setCell _ _ _ _ hbn).trans (hr3))))))
    have hk8 : Keep (w.heap.size + 1) w3 ((((((w3.setCell ⟨w.heap.size, 0, none⟩ (.int .i64 1)).setCell ⟨w.heap.size, 1, none⟩ (.int .u64 ((X3.bitsOf q q 0) : Nat))).setCell ⟨w.heap.size, 2, none⟩ (.int .u64 ((X3.bitsOf q q 1) : Nat))).setCell ⟨w.heap.size, 3, none⟩ (.int .u64 ((X3.bitsOf q q 2) : Nat))).setCell ⟨w.heap.size, 4, none⟩ (.int .u64 ((X3.bitsOf q q 3) : Nat))).setCell ⟨w.heap.size, 5, none⟩ (noKids)) := ⟨by simp, fun g h1 h2 => (Below.heap_setCell _ _ _ _ (by show g ≠ w.heap.size; omega)).trans ((Below.heap_setCell _ _ _ _ (by show g ≠ w.heap.size; omega)).trans ((Below.heap_setCell _ _ _ _ (by show g ≠ w.heap.size; omega)).trans ((Below.heap_setCell _ _ _ _ (by show g ≠ w.heap.size; omega)).trans ((Below.heap_setCell _ _ _ _ (by show g ≠ w.heap.size; omega)).trans ((Below.heap_setCell _ _ _ _ (by show g ≠ w.heap.size; omega)).trans (rfl))))))⟩
    generalize ((((((w3.setCell ⟨w.heap.size, 0, none⟩ (.int .i64 1)).setCell ⟨w.heap.size, 1, none⟩ (.int .u64 ((X3.bitsOf q q 0) : Nat))).setCell ⟨w.heap.size, 2, none⟩ (.int .u64 ((X3.bitsOf q q 1) : Nat))).setCell ⟨w.heap.size, 3, none⟩ (.int .u64 ((X3.bitsOf q q 2) : Nat))).setCell ⟨w.heap.size, 4, none⟩ (.int .u64 ((X3.bitsOf q q 3) : Nat))).setCell ⟨w.heap.size, 5, none⟩ (noKids)) = w8 at *
    have y0 : w8.cell? ⟨w.heap.size, 0, none⟩ = some (.int .i64 1) := by rw [Lib.cell_of_heap z5]; rfl
    have y1 : w8.cell? ⟨w.heap.size, 1, none⟩ = some (.int .u64 ((X3.bitsOf q q 0) : Nat)) := by rw [Lib.cell_of_heap z5]; rfl
    have y2 : w8.cell? ⟨w.heap.size, 2, none⟩ = some (.int .u64 ((X3.bitsOf q q 1) : Nat)) := by rw [Lib.cell_of_heap z5]; rfl
    have y3 : w8.cell? ⟨w.heap.size, 3, none⟩ = some (.int .u64 ((X3.bitsOf q q 2) : Nat)) := by rw [Lib.cell_of_heap z5]; rfl
    have y4 : w8.cell? ⟨w.heap.size, 4, none⟩ = some (.int .u64 ((X3.bitsOf q q 3) : Nat)) := by rw [Lib.cell_of_heap z5]; rfl
    have y5 : w8.cell? ⟨w.heap.size, 5, none⟩ = some (noKids) := by rw [Lib.cell_of_heap z5]; rfl
    exact bodyPost_ret (v := .agg #[(.int .i64 1), (.int .u64 ((X3.bitsOf q q 0) : Nat)), (.int .u64 ((X3.bitsOf q q 1) : Nat)), (.int .u64 ((X3.bitsOf q q 2) : Nat)), (.int .u64 ((X3.bitsOf q q 3) : Nat)), (noKids)]) (by simp [results, Tryz.results118, go_sem, y0, y1, y2, y3, y4, y5]) rfl ⟨_, rfl, ((Rep.bytes _ _ _ _ (X3.bits_lt _ _ _) (X3.bits_lt _ _ _) (X3.bits_lt _ _ _) (X3.bits_lt _ _ _)).kept hk8).mono (by omega), hr8, hG8, hj⟩
  rw [if_neg c92]
  have n92' : ((x : Int) == 92) = false := by simp; omega
  by_cases c93 : x = 93
  ·subst c93
   rw [if_pos (by omega)]
   go_enter Tryz.func118, Tryz.ntmps118
   go_upto_region 1 with fail
   rw [← hw0]
   clear hw0
   go_wp2_with fail
   refine k.out.mono ?_
   rintro e w1 ⟨rfl, hr, hg⟩
   have hG1 : Gr b w w1 := World.grownBy.trans hg0 hg
   have hs1 : w.heap.size + 1 ≤ w1.heap.size := by have := hg.size; omega
   have hz1 := (hg.block w.heap.size (by omega) (fun e => hne (Option.some.inj e))).trans hz0
   go_wp2_with fail
   refine (kf.out _).mono ?_
   rintro e w2 ⟨rfl, rfl⟩
   exact ⟨rfl, rfl, hG1⟩
  have n93' : ((x : Int) == 93) = false := by simp; omega
  by_cases c42 : x = 42
  ·subst c42
   rw [if_pos (by omega)]
   go_enter Tryz.func118, Tryz.ntmps118
   go_upto_region 1 with fail
   rw [← hw0]
   clear hw0
   go_wp2_with fail
   refine k.out.mono ?_
   rintro e w1 ⟨rfl, hr, hg⟩
   have hG1 : Gr b w w1 := World.grownBy.trans hg0 hg
   have hs1 : w.heap.size + 1 ≤ w1.heap.size := by have := hg.size; omega
   have hz1 := (hg.block w.heap.size (by omega) (fun e => hne (Option.some.inj e))).trans hz0
   go_wp2_with fail
   refine (kf.out _).mono ?_
   rintro e w2 ⟨rfl, rfl⟩
   exact ⟨rfl, rfl, hG1⟩
  have n42' : ((x : Int) == 42) = false := by simp; omega
  by_cases c43 : x = 43
  ·subst c43
   rw [if_pos (by omega)]
   go_enter Tryz.func118, Tryz.ntmps118
   go_upto_region 1 with fail
   rw [← hw0]
   clear hw0
   go_wp2_with fail
   refine k.out.mono ?_
   rintro e w1 ⟨rfl, hr, hg⟩
   have hG1 : Gr b w w1 := World.grownBy.trans hg0 hg
   have hs1 : w.heap.size + 1 ≤ w1.heap.size := by have := hg.size; omega
   have hz1 := (hg.block w.heap.size (by omega) (fun e => hne (Option.some.inj e))).trans hz0
   go_wp2_with fail
   refine (kf.out _).mono ?_
   rintro e w2 ⟨rfl, rfl⟩
   exact ⟨rfl, rfl, hG1⟩
  have n43' : ((x : Int) == 43) = false := by simp; omega
  by_cases c63 : x = 63
  ·subst c63
   rw [if_pos (by omega)]
   go_enter Tryz.func118, Tryz.ntmps118
   go_upto_region 1 with fail
   rw [← hw0]
   clear hw0
   go_wp2_with fail
   refine k.out.mono ?_
   rintro e w1 ⟨rfl, hr, hg⟩
   have hG1 : Gr b w w1 := World.grownBy.trans hg0 hg
   have hs1 : w.heap.size + 1 ≤ w1.heap.size := by have := hg.size; omega
   have hz1 := (hg.block w.heap.size (by omega) (fun e => hne (Option.some.inj e))).trans hz0
   go_wp2_with fail
   refine (kf.out _).mono ?_
   rintro e w2 ⟨rfl, rfl⟩
   exact ⟨rfl, rfl, hG1⟩
  have n63' : ((x : Int) == 63) = false := by simp; omega
  by_cases c124 : x = 124
  ·subst c124
   rw [if_pos (by omega)]
   go_enter Tryz.func118, Tryz.ntmps118
   go_upto_region 1 with fail
   rw [← hw0]
   clear hw0
   go_wp2_with fail
   refine k.out.mono ?_
   rintro e w1 ⟨rfl, hr, hg⟩
   have hG1 : Gr b w w1 := World.grownBy.trans hg0 hg
   have hs1 : w.heap.size + 1 ≤ w1.heap.size := by have := hg.size; omega
   have hz1 := (hg.block w.heap.size (by omega) (fun e => hne (Option.some.inj e))).trans hz0
   go_wp2_with fail
   refine (kf.out _).mono ?_
   rintro e w2 ⟨rfl, rfl⟩
   exact ⟨rfl, rfl, hG1⟩
  have n124' : ((x : Int) == 124) = false := by simp; omega
  by_cases c41 : x = 41
  ·subst c41
   rw [if_pos (by omega)]
   go_enter Tryz.func118, Tryz.ntmps118
   go_upto_region 1 with fail
   rw [← hw0]
   clear hw0
   go_wp2_with fail
   refine k.out.mono ?_
   rintro e w1 ⟨rfl, hr, hg⟩
   have hG1 : Gr b w w1 := World.grownBy.trans hg0 hg
   have hs1 : w.heap.size + 1 ≤ w1.heap.size := by have := hg.size; omega
   have hz1 := (hg.block w.heap.size (by omega) (fun e => hne (Option.some.inj e))).trans hz0
   go_wp2_with fail
   refine (kf.out _).mono ?_
   rintro e w2 ⟨rfl, rfl⟩
   exact ⟨rfl, rfl, hG1⟩
  have n41' : ((x : Int) == 41) = false := by simp; omega
  rw [if_neg (by omega)]
  go_enter Tryz.func118, Tryz.ntmps118
  go_upto_region 1 with fail
  rw [← hw0]
  clear hw0
  go_wp2_with fail
  refine k.out.mono ?_
  rintro e w1 ⟨rfl, hr, hg⟩
  have hG1 : Gr b w w1 := World.grownBy.trans hg0 hg
  have hs1 : w.heap.size + 1 ≤ w1.heap.size := by have := hg.size; omega
  have hz1 := (hg.block w.heap.size (by omega) (fun e => hne (Option.some.inj e))).trans hz0
  go_wp2_with fail
  refine (ksp.out x (by omega) _).mono ?_
  rintro e w2 ⟨rfl, hb2⟩
  go_wp2_with fail
  refine (kby.out _ _ _ _ _).mono ?_
  rintro e w3 ⟨rfl, hb3⟩
  have hgA : Gr b w1 w3 := World.grownBy.trans (gr_below hb2) (gr_below hb3)
  have hz3 := (hgA.block w.heap.size (by omega) (fun e => hne (Option.some.inj e))).trans hz1
  have hG3 : Gr b w w3 := World.grownBy.trans hG1 hgA
  have hs3 : w.heap.size + 1 ≤ w3.heap.size := by have := hgA.size; omega
  have hb1' : b < w1.heap.size := by omega
  have hb2' : b < w2.heap.size := by have := hb2.size; omega
  have hr3 : w3.heap[b]? = some (.cells #[.string s, .int .i64 ((i + 1 : Nat) : Int)] 96 (0, 0)) := (hb3.block b hb2').trans ((hb2.block b hb1').trans hr)
  unfold zero6 at hz3
  have n0 : w3.cell? ⟨w.heap.size, 0, none⟩ = some (.int .i64 0) := by rw [Lib.cell_of_heap hz3]; rfl
  have f0 : w3.frozen? ⟨w.heap.size, 0, none⟩ = false := Lib.frozen_of_heap hz3 0
  have n1 : w3.cell? ⟨w.heap.size, 1, none⟩ = some (.int .u64 0) := by rw [Lib.cell_of_heap hz3]; rfl
  have f1 : w3.frozen? ⟨w.heap.size, 1, none⟩ = false := Lib.frozen_of_heap hz3 1
  have n2 : w3.cell? ⟨w.heap.size, 2, none⟩ = some (.int .u64 0) := by rw [Lib.cell_of_heap hz3]; rfl
  have f2 : w3.frozen? ⟨w.heap.size, 2, none⟩ = false := Lib.frozen_of_heap hz3 2
  have n3 : w3.cell? ⟨w.heap.size, 3, none⟩ = some (.int .u64 0) := by rw [Lib.cell_of_heap hz3]; rfl
  have f3 : w3.frozen? ⟨w.heap.size, 3, none⟩ = false := Lib.frozen_of_heap hz3 3
  have n4 : w3.cell? ⟨w.heap.size, 4, none⟩ = some (.int .u64 0) := by rw [Lib.cell_of_heap hz3]; rfl
  have f4 : w3.frozen? ⟨w.heap.size, 4, none⟩ = false := Lib.frozen_of_heap hz3 4
  have n5 : w3.cell? ⟨w.heap.size, 5, none⟩ = some noKids := by rw [Lib.cell_of_heap hz3]; rfl
  have f5 : w3.frozen? ⟨w.heap.size, 5, none⟩ = false := Lib.frozen_of_heap hz3 5
  go_wp2_with fail
  have z0 := heap_setCell_same w3 w.heap.size 0 _ 46 (.int .i64 1) hz3
  have z1 := heap_setCell_same _ w.heap.size 1 _ 46 (.int .u64 ((X3.bitsOf x x 0) : Nat)) z0
  have z2 := heap_setCell_same _ w.heap.size 2 _ 46 (.int .u64 ((X3.bitsOf x x 1) : Nat)) z1
  have z3 := heap_setCell_same _ w.heap.size 3 _ 46 (.int .u64 ((X3.bitsOf x x 2) : Nat)) z2
  have z4 := heap_setCell_same _ w.heap.size 4 _ 46 (.int .u64 ((X3.bitsOf x x 3) : Nat)) z3
  have z5 := heap_setCell_same _ w.heap.size 5 _ 46 (noKids) z4
  have hG8 : Gr b w ((((((w3.setCell ⟨w.heap.size, 0, none⟩ (.int .i64 1)).setCell ⟨w.heap.size, 1, none⟩ (.int .u64 ((X3.bitsOf x x 0) : Nat))).setCell ⟨w.heap.size, 2, none⟩ (.int .u64 ((X3.bitsOf x x 1) : Nat))).setCell ⟨w.heap.size, 3, none⟩ (.int .u64 ((X3.bitsOf x x 2) : Nat))).setCell ⟨w.heap.size, 4, none⟩ (.int .u64 ((X3.bitsOf x x 3) : Nat))).setCell ⟨w.heap.size, 5, none⟩ (noKids)) := gr_new (gr_new (gr_new (gr_new (gr_new (gr_new hG3 (Nat.le_refl _) 0 _) (Nat.le_refl _) 1 _) (Nat.le_refl _) 2 _) (Nat.le_refl _) 3 _) (Nat.le_refl _) 4 _) (Nat.le_refl _) 5 _
  have hr8 : Rd b s (i + 1) ((((((w3.setCell ⟨w.heap.size, 0, none⟩ (.int .i64 1)).setCell ⟨w.heap.size, 1, none⟩ (.int .u64 ((X3.bitsOf x x 0) : Nat))).setCell ⟨w.heap.size, 2, none⟩ (.int .u64 ((X3.bitsOf x x 1) : Nat))).setCell ⟨w.heap.size, 3, none⟩ (.int .u64 ((X3.bitsOf x x 2) : Nat))).setCell ⟨w.heap.size, 4, none⟩ (.int .u64 ((X3.bitsOf x x 3) : Nat))).setCell ⟨w.heap.size, 5, none⟩ (noKids)) := (Below.heap_setCell _ _ _ _ hbn).trans ((Below.heap_setCell _ _ _ _ hbn).trans ((Below.heap_setCell _ _ _ _ hbn).trans ((Below.heap_setCell _ _ _ _ hbn).trans ((Below.heap_setCell _ _ _ _ hbn).trans ((Below.heap_setCell _ _ _ _ hbn).trans (hr3))))))
  have hk8 : Keep (w.heap.size + 1) w3 ((((((w3.setCell ⟨w.heap.size, 0, none⟩ (.int .i64 1)).setCell ⟨w.heap.size, 1, none⟩ (.int .u64 ((X3.bitsOf x x 0) : Nat))).setCell ⟨w.heap.size, 2, none⟩ (.int .u64 ((X3.bitsOf x x 1) : Nat))).setCell ⟨w.heap.size, 3, none⟩ (.int .u64 ((X3.bitsOf x x 2) : Nat))).setCell ⟨w.heap.size, 4, none⟩ (.int .u64 ((X3.bitsOf x x 3) : Nat))).setCell ⟨w.heap.size, 5, none⟩ (noKids)) := ⟨by simp, fun g h1 h2 => (Below.heap_setCell _ _ _ _ (by show g ≠ w.heap.size; omega)).trans ((Below.heap_setCell _ _ _ _ (by show g ≠ w.heap.size; omega)).trans ((Below.heap_setCell _ _ _ _ (by show g ≠ w.heap.size; omega)).trans ((Below.heap_setCell _ _ _ _ (by show g ≠ w.heap.size; omega)).trans ((Below.heap_setCell _ _ _ _ (by show g ≠ w.heap.size; omega)).trans ((Below.heap_setCell _ _ _ _ (by show g ≠ w.heap.size; omega)).trans (rfl))))))⟩
  generalize ((((((w3.setCell ⟨w.heap.size, 0, none⟩ (.int .i64 1)).setCell ⟨w.heap.size, 1, none⟩ (.int .u64 ((X3.bitsOf x x 0) : Nat))).setCell ⟨w.heap.size, 2, none⟩ (.int .u64 ((X3.bitsOf x x 1) : Nat))).setCell ⟨w.heap.size, 3, none⟩ (.int .u64 ((X3.bitsOf x x 2) : Nat))).setCell ⟨w.heap.size, 4, none⟩ (.int .u64 ((X3.bitsOf x x 3) : Nat))).setCell ⟨w.heap.size, 5, none⟩ (noKids)) = w8 at *
  have y0 : w8.cell? ⟨w.heap.size, 0, none⟩ = some (.int .i64 1) := by rw [Lib.cell_of_heap z5]; rfl
  have y1 : w8.cell? ⟨w.heap.size, 1, none⟩ = some (.int .u64 ((X3.bitsOf x x 0) : Nat)) := by rw [Lib.cell_of_heap z5]; rfl
  have y2 : w8.cell? ⟨w.heap.size, 2, none⟩ = some (.int .u64 ((X3.bitsOf x x 1) : Nat)) := by rw [Lib.cell_of_heap z5]; rfl
  have y3 : w8.cell? ⟨w.heap.size, 3, none⟩ = some (.int .u64 ((X3.bitsOf x x 2) : Nat)) := by rw [Lib.cell_of_heap z5]; rfl
  have y4 : w8.cell? ⟨w.heap.size, 4, none⟩ = some (.int .u64 ((X3.bitsOf x x 3) : Nat)) := by rw [Lib.cell_of_heap z5]; rfl
  have y5 : w8.cell? ⟨w.heap.size, 5, none⟩ = some (noKids) := by rw [Lib.cell_of_heap z5]; rfl
  exact bodyPost_ret (v := .agg #[(.int .i64 1), (.int .u64 ((X3.bitsOf x x 0) : Nat)), (.int .u64 ((X3.bitsOf x x 1) : Nat)), (.int .u64 ((X3.bitsOf x x 2) : Nat)), (.int .u64 ((X3.bitsOf x x 3) : Nat)), (noKids)]) (by simp [results, Tryz.results118, go_sem, y0, y1, y2, y3, y4, y5]) rfl ⟨_, rfl, ((Rep.bytes _ _ _ _ (X3.bits_lt _ _ _) (X3.bits_lt _ _ _) (X3.bits_lt _ _ _) (X3.bits_lt _ _ _)).kept hk8).mono (by omega), hr8, hG8, (by omega)⟩
 ·obtain rfl : i = s.size := by omega
  have k := hid (take_end b s w0 h0 hs)
  have e1 : X3.atomX W (LL s) s.size = .err 5 := by unfold X3.atomX; rw [x_take_end]; rfl
  rw [e1]
  go_enter Tryz.func118, Tryz.ntmps118
  go_upto_region 1 with fail
  rw [← hw0]
  clear hw0
  go_wp2_with fail
  refine k.out.mono ?_
  rintro e w1 ⟨rfl, hg⟩
  exact ⟨rfl, rfl, World.grownBy.trans hg0 hg⟩
end Go.Proofs.YtochckefnjobhaaGreatDoor
namespace Go.Proofs.YtochckefnjobhaaGreatDoor
open Go Go.RowKit Go.Lib
set_option linter.unusedVariables false
theorem cells6 {w : World} {k : Nat} {t : TypeId} {a0 a1 a2 a3 a4 a5 : Value} (h : w.heap[k]? = some (.cells #[a0, a1, a2, a3, a4, a5] t (0, 0))) :
  w.cell? ⟨k, 0, none⟩ = some a0 ∧ w.cell? ⟨k, 1, none⟩ = some a1 ∧ w.cell? ⟨k, 2, none⟩ = some a2 ∧ w.cell? ⟨k, 3, none⟩ = some a3 ∧ w.cell? ⟨k, 4, none⟩ = some a4 ∧ w.cell? ⟨k, 5, none⟩ = some a5 := by
 refine ⟨?_, ?_, ?_, ?_, ?_, ?_⟩ <;> (rw [Lib.cell_of_heap h]; rfl)
theorem frozen6 {w : World} {k : Nat} {t : TypeId} {cs : Array Value} (h : w.heap[k]? = some (.cells cs t (0, 0))) :
  w.frozen? ⟨k, 0, none⟩ = false ∧ w.frozen? ⟨k, 1, none⟩ = false ∧ w.frozen? ⟨k, 2, none⟩ = false ∧ w.frozen? ⟨k, 3, none⟩ = false ∧ w.frozen? ⟨k, 4, none⟩ = false ∧ w.frozen? ⟨k, 5, none⟩ = false :=
 ⟨Lib.frozen_of_heap h 0, Lib.frozen_of_heap h 1, Lib.frozen_of_heap h 2, Lib.frozen_of_heap h 3, Lib.frozen_of_heap h 4, Lib.frozen_of_heap h 5⟩
theorem six {w : World} {k : Nat} {t : TypeId} {b0 b1 b2 b3 b4 b5 : Value} (h : w.heap[k]? = some (.cells #[b0, b1, b2, b3, b4, b5] t (0, 0))) (a0 a1 a2 a3 a4 a5 : Value) :
  ∃ w8, ((((((w.setCell ⟨k, 0, none⟩ a0).setCell ⟨k, 1, none⟩ a1).setCell ⟨k, 2, none⟩ a2).setCell ⟨k, 3, none⟩ a3).setCell ⟨k, 4, none⟩ a4).setCell ⟨k, 5, none⟩ a5) = w8 ∧
   w8.heap[k]? = some (.cells #[a0, a1, a2, a3, a4, a5] t (0, 0)) ∧ Gr k w w8 ∧ w8.heap.size = w.heap.size := by
 refine ⟨_, rfl, ?_, ?_, ?_⟩
 ·have z0 := heap_setCell_same w k 0 _ t a0 h
  have z1 := heap_setCell_same _ k 1 _ t a1 z0
  have z2 := heap_setCell_same _ k 2 _ t a2 z1
  have z3 := heap_setCell_same _ k 3 _ t a3 z2
  have z4 := heap_setCell_same _ k 4 _ t a4 z3
  exact heap_setCell_same _ k 5 _ t a5 z4
 ·exact gr_set (gr_set (gr_set (gr_set (gr_set (gr_set (Gr.refl k w) 0 _) 1 _) 2 _) 3 _) 4 _) 5 _
 ·simp
theorem one5 {w : World} {k : Nat} {t : TypeId} {b0 b1 b2 b3 b4 b5 : Value} (h : w.heap[k]? = some (.cells #[b0, b1, b2, b3, b4, b5] t (0, 0))) (a5 : Value) :
  ∃ w8, (w.setCell ⟨k, 5, none⟩ a5) = w8 ∧ w8.heap[k]? = some (.cells #[b0, b1, b2, b3, b4, a5] t (0, 0)) ∧ Gr k w w8 ∧ w8.heap.size = w.heap.size :=
 ⟨_, rfl, heap_setCell_same _ k 5 _ t a5 h, gr_set (Gr.refl k w) 5 _, by simp⟩
theorem below_fresh {B k : Nat} {w w3 w8 : World} (h : Below B w w3) (hB : B ≤ w3.heap.size) (hk : B ≤ k) (g : Gr k w3 w8) : Below B w w8 :=
 h.grown g hB (fun j e => by have := Option.some.inj e; omega)
theorem gr_fresh {b k : Nat} {w w3 w8 : World} (h : Gr b w w3) (hk : w.heap.size ≤ k) (g : Gr k w3 w8) : Gr b w w8 :=
 ⟨g.os.trans h.os, g.tape.trans h.tape, g.output.trans h.output, Nat.le_trans h.size g.size, fun i hi hne =>
  (g.block i (Nat.lt_of_lt_of_le hi h.size) (fun e => by have := Option.some.inj e; omega)).trans (h.block i hi hne)⟩
inductive Reps (S : Nat → Prop) (w : World) : List X3.RX → List Value → Prop
 | nil : Reps S w [] []
 | cons (r : X3.RX) (l : List X3.RX) (v : Value) (vs : List Value) (h : RepS S w r v) (h2 : Reps S w l vs) : Reps S w (r :: l) (v :: vs)
def ncs : Value → List Value
 | .agg a => a.toList
 | _ => []
theorem Reps.kept {S : Nat → Prop} {w w' : World} (hg : KeepS S w w') {l : List X3.RX} {vs : List Value} (h : Reps S w l vs) : Reps S w' l vs := by
 induction h with
 | nil => exact .nil
 | cons r l v vs h h2 ih => exact .cons r l v vs (h.kept hg) ih
theorem Reps.monoS {S S' : Nat → Prop} {w : World} (hB : ∀ g, S g → g < w.heap.size → S' g) {l : List X3.RX} {vs : List Value} (h : Reps S w l vs) : Reps S' w l vs := by
 induction h with
 | nil => exact .nil
 | cons r l v vs h h2 ih => exact .cons r l v vs (h.monoS hB) ih
theorem Reps.push {S : Nat → Prop} {w : World} {l : List X3.RX} {vs : List Value} {r : X3.RX} {v : Value} (h : Reps S w l vs) (h2 : RepS S w r v) : Reps S w (l ++ [r]) (vs ++ [v]) := by
 induction h with
 | nil => exact .cons r [] v [] h2 .nil
 | cons r' l v' vs h _ ih => exact .cons r' _ v' _ h ih
def RowOf (B : Nat) (w : World) (v : Value) (L : List X3.RX) : Prop :=
 ∃ VS, Reps (fun x => B ≤ x ∧ some x ≠ v.ownBlock) w L VS ∧ w.ownsRow B 46 6 v L.length (VS.flatMap ncs)
theorem RowOf.nil (B : Nat) (w : World) : RowOf B w (.slice none 0 0) [] := ⟨[], .nil, World.ownsRow_nil _ _ _ _⟩
theorem RowOf.lt {B : Nat} {w : World} {v : Value} {L : List X3.RX} (h : RowOf B w v L) : ∀ k, v.ownBlock = some k → B ≤ k ∧ k < w.heap.size := by
 obtain ⟨VS, _, h2⟩ := h
 exact h2.lt
theorem owns_below {w w' : World} {B : Nat} {v : Value} {n : Nat} {xs : List Value} (h : w.ownsRow B 46 6 v n xs) (hb : Below w.heap.size w w') : w'.ownsRow B 46 6 v n xs := by
 refine ⟨h.1, ?_⟩
 rcases h.2 with hn | ⟨g, cap, cur, rfl, hB, hg, rest⟩
 ·exact .inl hn
 ·exact .inr ⟨g, cap, cur, rfl, hB, (Below.block hb g (Array.getElem?_eq_some_iff.1 hg).1).trans hg, rest⟩
theorem RowOf.below {B : Nat} {w w' : World} {v : Value} {L : List X3.RX} (h : RowOf B w v L) (hb : Below w.heap.size w w') : RowOf B w' v L := by
 obtain ⟨VS, h1, h2⟩ := h
 exact ⟨VS, h1.kept (keepS_below hb), owns_below h2 hb⟩
theorem RowOf.gr {B b : Nat} {w w' : World} {v : Value} {L : List X3.RX} (h : RowOf B w v L) (hb : b < B) (hg : Gr b w w') : RowOf B w' v L := by
 obtain ⟨VS, h1, h2⟩ := h
 refine ⟨VS, h1.kept (keepS_gr (b := b) (fun x => absurd x.1 (by omega)) hg), h2.kept hg ?_⟩
 rcases hv : v.ownBlock with _ | g
 ·exact .inl rfl
 ·right; intro e; have := Option.some.inj e; have := (h2.lt g hv).1; omega
theorem row_push {B : Nat} {w1 w2 w3 w4 : World} {v v' : Value} {L : List X3.RX} {VS : List Value} {r : X3.RX} {nv : Value}
  (h1 : Reps (fun x => B ≤ x ∧ some x ≠ v.ownBlock) w2 L VS) (hlt : ∀ k, v.ownBlock = some k → B ≤ k ∧ k < w1.heap.size) (hB : B ≤ w1.heap.size)
  (hr : Rep w1.heap.size w2 r nv) (h23 : Below w2.heap.size w2 w3) (hown : w4.ownsRow B 46 6 v' (L.length + 1) (VS.flatMap ncs ++ ncs nv))
  (hgrow : w3.grownBy w4 v.ownBlock) (hat : v'.ownBlock = v.ownBlock ∨ v'.ownBlock = some w3.heap.size) : RowOf B w4 v' (L ++ [r]) := by
 refine ⟨VS ++ [nv], ?_, ?_⟩
 ·have h2 : Reps (fun x => B ≤ x ∧ some x ≠ v.ownBlock) w2 (L ++ [r]) (VS ++ [nv]) := h1.push (hr.monoS (fun g hg _ => ⟨by have : w1.heap.size ≤ g := hg; omega, fun e => by
   have := (hlt g e.symm).2
   have : w1.heap.size ≤ g := hg
   omega⟩))
  have h3 := h2.kept (keepS_below h23)
  have h3' : Reps (fun x => (B ≤ x ∧ some x ≠ v.ownBlock) ∧ x < w3.heap.size) w3 (L ++ [r]) (VS ++ [nv]) := h3.monoS (fun g hg hl => ⟨hg, hl⟩)
  have h4 : Reps (fun x => (B ≤ x ∧ some x ≠ v.ownBlock) ∧ x < w3.heap.size) w4 (L ++ [r]) (VS ++ [nv]) := h3'.kept ⟨hgrow.size, fun g hg hl => hgrow.block g hl hg.1.2⟩
  exact h4.monoS (fun g hg _ => ⟨hg.1.1, by
   rcases hat with e | e
   ·rw [e]; exact hg.1.2
   ·rw [e]; intro e2; have := Option.some.inj e2; omega⟩)
 ·rw [List.flatMap_append, List.length_append]
  simpa using hown
theorem RowOf.shape {B : Nat} {w : World} {v : Value} {L : List X3.RX} (h : RowOf B w v L) (h0 : L ≠ []) :
  ∃ g cap, v = .slice (some ⟨g, 0, none⟩) L.length cap ∧ B ≤ g ∧ g < w.heap.size ∧ L.length ≤ cap ∧ RepL B w L g 0 := by
 obtain ⟨VS, h1, h2⟩ := h
 have hc : ∀ {g : Nat}, v.ownBlock = some g → ∀ j u, (VS.flatMap ncs)[j]? = some u → w.cell? ((⟨g, 0, none⟩ : Addr).add j) = some u := fun hv => h2.cells hv
 rcases h2.2 with ⟨_, h3⟩ | ⟨g, cap, cur, rfl, hB, hg, hcp, hcm, hs, ht⟩
 ·exact absurd (List.eq_nil_of_length_eq_zero h3) h0
 ·refine ⟨g, cap, rfl, hB, (Array.getElem?_eq_some_iff.1 hg).1, hcp, ?_⟩
  have hcell : ∀ q u, (VS.flatMap ncs)[q]? = some u → w.cell? ⟨g, 6 * 0 + q, none⟩ = some u := by
   intro q u hu
   have := hc (g := g) rfl q u hu
   have e : (⟨g, 0, none⟩ : Addr).add q = ⟨g, 6 * 0 + q, none⟩ := by unfold Addr.add; split <;> simp_all
   rwa [e] at this
  clear hc h2 ht hs hcp hcm h0
  generalize 0 = j at hcell ⊢
  clear hg
  induction h1 generalizing j with
  | nil => exact .nil _ _
  | cons r l v vs h hh ih =>
   obtain ⟨kd, x, y, z, u, o, n, c, rfl⟩ := h.shape
   refine .cons r l g j kd x y z u _ (h.monoS (fun g hg _ => hg.1)) (hcell 0 _ rfl) (hcell 1 _ rfl) (hcell 2 _ rfl) (hcell 3 _ rfl) (hcell 4 _ rfl) (hcell 5 _ rfl) (ih (j + 1) ?_)
   intro q u' hu'
   have := hcell (q + 6) u' (by
    rw [List.flatMap_cons, List.getElem?_append_right (by simp [ncs])]
    simpa [ncs] using hu')
   rw [show 6 * (j + 1) + q = 6 * j + (q + 6) by omega]
   exact this
theorem RowOf.sl {B : Nat} {w : World} {v : Value} {L : List X3.RX} (h : RowOf B w v L) : ∃ o c, v = .slice o L.length c := by
 obtain ⟨VS, _, h2⟩ := h
 rcases h2.2 with ⟨rfl, h3⟩ | ⟨g, cap, cur, rfl, _⟩
 ·rw [h3]; exact ⟨_, _, rfl⟩
 ·exact ⟨_, _, rfl⟩
theorem info28 : (Tryz.prog.info? 46).map (fun i => (i.zero, i.size, i.bytes)) = some (some (.agg zero6), 6, 64) := by kernel_rfl
end Go.Proofs.YtochckefnjobhaaGreatDoor
namespace Go.Proofs.YtochckefnjobhaaGreatDoor
open Go Go.RowKit Go.Lib
set_option linter.unusedVariables false
set_option maxRecDepth 100000 in
set_option maxHeartbeats 4000000 in
theorem clone_kids (b : Nat) (w : World) (l : List X3.RX) (g cap : Nat) (kd x y z u : Int) (hl : RepL b w l g 0) (hg : b ≤ g) (hw : g < w.heap.size) (hn : l.length ≤ 1000000) (hcap : l.length ≤ cap)
  (ih : ∀ (k : Nat) (hk : k < l.length) (w' : World) (v : Value), Rep b w' l[k] v → Calls Tryz.prog 120 #[v] w' fun e w'' => ∃ v', e = .returned v' ∧ Rep w'.heap.size w'' l[k] v' ∧ Below w'.heap.size w' w'') :
  Calls Tryz.prog 120 #[nodeV kd x y z u (.slice (some ⟨g, 0, none⟩) l.length cap)] w fun e w' => ∃ kv, e = .returned (nodeV kd x y z u kv) ∧ RowOf w.heap.size w' kv l ∧ Below w.heap.size w w' := by
 have IH := hid ih
 have HL := hid hl
 clear ih hl
 obtain ⟨w0, hw0⟩ : ∃ w0, w0 = (w.alloc (.cells #[.int .i64 kd, .int .u64 x, .int .u64 y, .int .u64 z, .int .u64 u, .slice (some ⟨g, 0, none⟩) l.length cap] 46)).alloc (.cells zero6 46) := ⟨_, rfl⟩
 have hb0 : Below w.heap.size w w0 := by rw [hw0]; exact below_two _ _ _
 have hz0 : w0.heap[w.heap.size + 1]? = some (.cells zero6 46 (0, 0)) := by rw [hw0]; exact new_block2 _ _ _
 have hv0 : w0.heap[w.heap.size]? = some (.cells #[.int .i64 kd, .int .u64 x, .int .u64 y, .int .u64 z, .int .u64 u, .slice (some ⟨g, 0, none⟩) l.length cap] 46 (0, 0)) := by rw [hw0]; exact (Below.heap_alloc _ _ _ (by simp)).trans (new_block _ _)
 have hs0 : w0.heap.size = w.heap.size + 1 + 1 := by rw [hw0]; simp
 unfold zero6 at hw0
 go_enter Tryz.func120, Tryz.ntmps120
 go_upto_region 1 with fail
 rw [← hw0]
 clear hw0
 obtain ⟨p0, p1, p2, p3, p4, p5⟩ := cells6 hv0
 have HV0 := hid hv0
 have HZ0 := hid hz0
 clear hv0 hz0
 go_wp2_with fail
 clear p0 p1 p2 p3 p4 p5
 go_loopw [3, 9] (fun a i wr => ∃ k : Nat, k ≤ l.length ∧ i = .int .i64 (k : Int) ∧ RowOf w0.heap.size wr a (l.take k) ∧ Below w0.heap.size w0 wr) (fun _ i _ => l.length - (RowKit.intOf i).toNat)
 case atStart => exact ⟨0, by omega, rfl, by rw [List.take_zero]; exact RowOf.nil _ _, Below.refl _ _⟩
 case round =>
  obtain ⟨k, hk, rfl, hrow, hB⟩ := hrel
  have hBw : Below w.heap.size w wr := hb0.trans (hB.mono (by omega))
  have hsz := hB.size
  by_cases hlt : k < l.length
  ·obtain ⟨kd', x', y', z', u', kv', hR, c0, c1, c2, c3, c4, c5⟩ := RepLS.at_ (HL.out.kept (keep_below hBw) hg hw) k hlt
   rw [Nat.zero_add] at c0 c1 c2 c3 c4 c5
   have h1 : (k : Int) < (l.length : Int) := by omega
   have h2 : (0 : Int) ≤ (k : Int) := by omega
   obtain ⟨ko, kn, kc, rfl⟩ := hR.slice
   have hI := hid (IH.out k hlt)
   have hlen : (l.take k).length = k := by rw [List.length_take]; omega
   have HT : Hid (l.take k ++ [l[k]] = l.take (k + 1)) := by
    show _ = _
    rw [List.take_add_one, List.getElem?_eq_getElem hlt]; rfl
   obtain ⟨wa, hwa⟩ : ∃ wa, wa = wr.alloc (.cells #[.int .i64 kd', .int .u64 x', .int .u64 y', .int .u64 z', .int .u64 u', .slice ko kn kc] 46) := ⟨_, rfl⟩
   have hba : Below wr.heap.size wr wa := by rw [hwa]; exact (Below.refl _ wr).alloc (Nat.le_refl _) _
   have hra : Rep b wa l[k] (nodeV kd' x' y' z' u' (.slice ko kn kc)) := hR.kept (keep_below hba)
   have HRow := hid (hrow.below hba)
   have hbwa : Below w0.heap.size w0 wa := hB.trans (hba.mono hsz)
   have hsa := hbwa.size
   clear hrow hR
   generalize l[k] = rk at *
   generalize l.take k = lk at *
   have HIa := hid (hI.out _ _ hra)
   clear hI hra
   go_wp2_with fail
   rw [← hwa]
   clear hwa
   refine HIa.out.mono ?_
   rintro e w2 ⟨nv, rfl, hRn, hb2⟩
   obtain ⟨ka, kx, ky, kz, ku, ko', kn', kc', rfl⟩ := hRn.shape
   obtain ⟨VS, hreps, hown⟩ := HRow.out.below hb2
   have hltb := HRow.out.lt
   obtain ⟨i0, hi, hz0, hz1, hz2⟩ := info_parts info28
   have hb2s := hb2.size
   rw [hlen] at hown
   go_wp2_with (at_builtin; refine wpList_append_own_at _ rfl _ _ 44 rfl w0.heap.size 46 i0 (.agg zero6) 6 64 Tryz.underlying44 hi hz0 hz1 hz2 rfl (by decide) _ _ _ rfl (hown.alloc _) ⟨w2.heap.size, 0, none⟩ 1 1 [.int .i64 ka, .int .u64 kx, .int .u64 ky, .int .u64 kz, .int .u64 ku, .slice ko' kn' kc'] rfl rfl ?c1 ?c2 ?c3 ?c4 ?c5 ?_)
   case c1 =>
    intro j v hj
    have := Lib.cell_of_heap (new_block w2 (.cells #[.int .i64 ka, .int .u64 kx, .int .u64 ky, .int .u64 kz, .int .u64 ku, .slice ko' kn' kc'] 46)) j
    rw [show (⟨w2.heap.size, 0, none⟩ : Addr).add j = ⟨w2.heap.size, j, none⟩ by simp [Addr.add]; omega]
    rw [this, ← hj]
    simp
   case c2 => intro v hv; simp at hv; rcases hv with rfl | rfl | rfl | rfl | rfl | rfl <;> rfl
   case c3 => unfold maxLen; omega
   case c4 => omega
   case c5 => simp; omega
   intro v' w4 hown' hgrow hnil hat
   have hrow4 : RowOf w0.heap.size w4 v' (lk ++ [rk]) := row_push hreps hltb hsa hRn ((Below.refl _ w2).alloc (Nat.le_refl _) _) (by rw [hlen, hs0]; exact hown') hgrow (by rw [World.size_alloc]; exact hat)
   have hb4 : Below w0.heap.size w0 w4 := ((hbwa.trans (hb2.mono hsa)).alloc (by omega) _).grown hgrow (by simp; omega) (fun q hq => (hltb q hq).1)
   have HR4 := hid hrow4
   have HB4 := hid hb4
   clear hrow4 hb4 hown' hgrow hnil hat hown hreps hltb HRow HIa
   go_wp2_with fail
   refine ⟨⟨k + 1, by omega, rfl, by rw [← HT.out]; exact HR4.out, HB4.out⟩, ?_⟩
   show l.length - ((k : Int) + 1).toNat < l.length - ((k : Int)).toNat
   omega
  ·have h1 : ¬ (k : Int) < (l.length : Int) := by omega
   obtain rfl : k = l.length := by omega
   rw [List.take_length] at hrow
   have hv1 := (hB.block w.heap.size (by omega)).trans HV0.out
   have hz1 := (hB.block (w.heap.size + 1) (by omega)).trans HZ0.out
   have f5 := (frozen6 hv1).2.2.2.2.2
   obtain ⟨q0, q1, q2, q3, q4, q5⟩ := cells6 hv1
   obtain ⟨so, sc, rfl⟩ := hrow.sl
   have HRow := hid hrow
   clear hrow
   obtain ⟨w5, e5, hv5, hg5, hs5⟩ := one5 hv1 (.slice so l.length sc)
   have hz5 := (hg5.block (w.heap.size + 1) (by omega) (by simp)).trans hz1
   unfold zero6 at hz5
   go_upto_region 8 with fail
   obtain ⟨y0, y1, y2, y3, y4, y5⟩ := cells6 hv5
   obtain ⟨r0, r1, r2, r3, r4, r5⟩ := cells6 hz5
   obtain ⟨g0, g1, g2, g3, g4, g5⟩ := frozen6 hz5
   obtain ⟨w8, e8, hz8, hg8, hs8⟩ := six hz5 (.int .i64 kd) (.int .u64 x) (.int .u64 y) (.int .u64 z) (.int .u64 u) (.slice so l.length sc)
   go_wp2_with fail
   obtain ⟨y0, y1, y2, y3, y4, y5⟩ := cells6 hz8
   refine bodyPost_ret (v := nodeV kd x y z u (.slice so l.length sc)) (by simp [results, Tryz.results120, go_sem, y0, y1, y2, y3, y4, y5]) rfl ⟨_, rfl, ?_, ?_⟩
   ·have h1 := HRow.out.gr (b := w.heap.size) (by omega) hg5
    have h2 := h1.gr (b := w.heap.size + 1) (by omega) hg8
    obtain ⟨VS, hh1, hh2⟩ := h2
    exact ⟨VS, hh1.monoS (fun g hg _ => ⟨by omega, hg.2⟩), hh2.1, hh2.2.imp id (fun ⟨g, cap, cur, e, hb, r⟩ => ⟨g, cap, cur, e, by omega, r⟩)⟩
   ·exact below_fresh (below_fresh hBw (by omega) (Nat.le_refl _) hg5) (by omega) (by omega) hg8
theorem clone_any (b : Nat) : ∀ (n : Nat) (w : World) (r : X3.RX) (v : Value), r.size ≤ n → r.size ≤ 1000000 → Rep b w r v →
  Calls Tryz.prog 120 #[v] w fun e w' => ∃ v', e = .returned v' ∧ Rep w.heap.size w' r v' ∧ Below w.heap.size w w' := by
 intro n
 induction n with
 | zero => intro w r v h; have := size_pos r; omega
 | succ n ih =>
  intro w r v hn hb hR
  have leaf : ∀ (kd x y z u : Int), Calls Tryz.prog 120 #[nodeV kd x y z u noKids] w fun e w' => e = .returned (nodeV kd x y z u noKids) ∧ Below w.heap.size w w' := by
   intro kd x y z u
   obtain ⟨w0, hw0⟩ : ∃ w0, w0 = (w.alloc (.cells #[.int .i64 kd, .int .u64 x, .int .u64 y, .int .u64 z, .int .u64 u, .slice none 0 0] 46)).alloc (.cells zero6 46) := ⟨_, rfl⟩
   have hb0 : Below w.heap.size w w0 := by rw [hw0]; exact below_two _ _ _
   have hz0 : w0.heap[w.heap.size + 1]? = some (.cells zero6 46 (0, 0)) := by rw [hw0]; exact new_block2 _ _ _
   have hv0 : w0.heap[w.heap.size]? = some (.cells #[.int .i64 kd, .int .u64 x, .int .u64 y, .int .u64 z, .int .u64 u, .slice none 0 0] 46 (0, 0)) := by rw [hw0]; exact (Below.heap_alloc _ _ _ (by simp)).trans (new_block _ _)
   have hs0 : w0.heap.size = w.heap.size + 1 + 1 := by rw [hw0]; simp
   unfold zero6 at hw0
   go_enter Tryz.func120, Tryz.ntmps120
   go_upto_region 1 with fail
   rw [← hw0]
   clear hw0
   obtain ⟨p0, p1, p2, p3, p4, p5⟩ := cells6 hv0
   have HV0 := hid hv0
   have HZ0 := hid hz0
   clear hv0 hz0
   go_wp2_with fail
   clear p0 p1 p2 p3 p4 p5
   go_loopw [3, 9] (fun a i wr => a = .slice none 0 0 ∧ i = .int .i64 0 ∧ wr = w0) (fun _ _ _ => 0)
   case atStart => exact ⟨rfl, rfl, rfl⟩
   case round =>
    obtain ⟨rfl, rfl, rfl⟩ := hrel
    have f5 := (frozen6 HV0.out).2.2.2.2.2
    obtain ⟨q0, q1, q2, q3, q4, q5⟩ := cells6 HV0.out
    obtain ⟨w5, e5, hv5, hg5, hs5⟩ := one5 HV0.out (.slice none 0 0)
    have hz5 := (hg5.block (w.heap.size + 1) (by omega) (by simp)).trans HZ0.out
    unfold zero6 at hz5
    go_upto_region 8 with fail
    obtain ⟨y0, y1, y2, y3, y4, y5⟩ := cells6 hv5
    obtain ⟨r0, r1, r2, r3, r4, r5⟩ := cells6 hz5
    obtain ⟨g0, g1, g2, g3, g4, g5⟩ := frozen6 hz5
    obtain ⟨w8, e8, hz8, hg8, hs8⟩ := six hz5 (.int .i64 kd) (.int .u64 x) (.int .u64 y) (.int .u64 z) (.int .u64 u) (.slice none 0 0)
    go_wp2_with fail
    obtain ⟨y0, y1, y2, y3, y4, y5⟩ := cells6 hz8
    exact bodyPost_ret (v := nodeV kd x y z u (.slice none 0 0)) (by simp [results, Tryz.results120, go_sem, y0, y1, y2, y3, y4, y5]) rfl ⟨rfl, below_fresh (below_fresh hb0 (by omega) (Nat.le_refl _) hg5) (by omega) (by omega) hg8⟩
  cases hR with
  | empty => exact (leaf 0 0 0 0 0).mono fun e w' h => ⟨_, h.1, .empty, h.2⟩
  | bytes x y z u hx hy hz hu => exact (leaf 1 x y z u).mono fun e w' h => ⟨_, h.1, .bytes x y z u hx hy hz hu, h.2⟩
  | cat l g cap h hc hg hw h0 =>
   simp only [X3.RX.size] at hn hb ⊢
   have h1 := length_le_sizeL l
   refine (clone_kids b w l g cap 2 0 0 0 0 h hg hw (by omega) hc fun k hk w' v hv => ih w' _ v (by have := size_in l k hk; omega) (by have := size_in l k hk; omega) hv).mono ?_
   rintro e w' ⟨kv, rfl, hrow, hbw⟩
   obtain ⟨g', cap', rfl, h2, h3, h4, h5⟩ := hrow.shape h0
   exact ⟨_, rfl, .cat l g' cap' h5 h4 h2 h3 h0, hbw⟩
  | alt l g cap h hc hg hw h0 =>
   simp only [X3.RX.size] at hn hb ⊢
   have h1 := length_le_sizeL l
   refine (clone_kids b w l g cap 3 0 0 0 0 h hg hw (by omega) hc fun k hk w' v hv => ih w' _ v (by have := size_in l k hk; omega) (by have := size_in l k hk; omega) hv).mono ?_
   rintro e w' ⟨kv, rfl, hrow, hbw⟩
   obtain ⟨g', cap', rfl, h2, h3, h4, h5⟩ := hrow.shape h0
   exact ⟨_, rfl, .alt l g' cap' h5 h4 h2 h3 h0, hbw⟩
  | star r g cap h hc hg hw =>
   simp only [X3.RX.size] at hn hb ⊢
   refine (clone_kids b w [r] g cap 4 0 0 0 0 h hg hw (by simp) hc fun k hk w' v hv => ih w' _ v (by have := size_in [r] k hk; simp only [X3.sizeL] at this; omega) (by have := size_in [r] k hk; simp only [X3.sizeL] at this; omega) hv).mono ?_
   rintro e w' ⟨kv, rfl, hrow, hbw⟩
   obtain ⟨g', cap', rfl, h2, h3, h4, h5⟩ := hrow.shape (by simp)
   exact ⟨_, rfl, .star r g' cap' h5 h4 h2 h3, hbw⟩
end Go.Proofs.YtochckefnjobhaaGreatDoor
