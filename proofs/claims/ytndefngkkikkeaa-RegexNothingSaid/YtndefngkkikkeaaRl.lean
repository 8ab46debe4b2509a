/- regex's reader: an atom, given what reads ways. -/
import Derived.Test.YtndefngkkikkeaaRk
import Derived.Test.YtndefngkkikkeaaXd
namespace Go.Proofs.Ytndefngkkikkeaa
open Go Go.RowKit Go.Lib
set_option linter.unusedVariables false

theorem atom_at {W : Nat → X3.PR X3.RX} {s : ByteArray} {i : Nat} (hi : i < s.size) : X3.atomX W (LL s) i =
    if (s[i]'hi).toNat = 40 then (W (i + 1)).bind fun r k => (X3.take (LL s) k).bind fun c m => if c.toNat = 41 then .ok r m else .err 5
    else if (s[i]'hi).toNat = 91 then X3.itemsX (LL s) (i + 1)
    else if (s[i]'hi).toNat = 46 then .ok (X3.exceptX (X3.spanX 10 10)) (i + 1)
    else if (s[i]'hi).toNat = 92 then (X3.escX (LL s) (i + 1)).bind fun c k => .ok (X3.spanX c c) k
    else if (s[i]'hi).toNat = 93 ∨ (s[i]'hi).toNat = 42 ∨ (s[i]'hi).toNat = 43 ∨ (s[i]'hi).toNat = 63 ∨ (s[i]'hi).toNat = 124 ∨ (s[i]'hi).toNat = 41 then .err 5
    else .ok (X3.spanX (s[i]'hi).toNat (s[i]'hi).toNat) (i + 1) := by
  unfold X3.atomX; rw [x_take hi]; rfl

set_option maxRecDepth 100000 in
set_option maxHeartbeats 4000000 in
theorem atom_any (b : Nat) (s : ByteArray) (i : Nat) (w : World) (h : Rd b s i w) (hs : s.size ≤ maxLen) (hi : i ≤ s.size) (W : Nat → X3.PR X3.RX)
    (hW : ∀ (w : World) (k : Nat), i < k → Rd b s k w → k ≤ s.size → Calls Try.prog 28 #[.pointer (some ⟨b, 0, none⟩)] w (RP b s w (W k)))
    (hWle : i < s.size → ∀ j r, W (i + 1) = .ok r j → j ≤ s.size) :
    Calls Try.prog 51 #[.pointer (some ⟨b, 0, none⟩)] w (RP b s w (X3.atomX W (LL s) i)) := by
  have hbw : b < w.heap.size := (Array.getElem?_eq_some_iff.1 h).1
  have hbn : b ≠ w.heap.size := by omega
  have hne : w.heap.size ≠ b := by omega
  have HW := hid hW
  clear hW
  obtain ⟨w0, hw0⟩ : ∃ w0, w0 = w.alloc (.cells zero6 28) := ⟨_, rfl⟩
  have hg0 : Gr b w w0 := by rw [hw0]; exact gr_alloc (Gr.refl b w) _
  have h0 : Rd b s i w0 := by rw [hw0]; exact (Below.heap_alloc _ _ _ hbw).trans h
  have hz0 : w0.heap[w.heap.size]? = some (.cells zero6 28 (0, 0)) := by rw [hw0]; exact new_block _ _
  have hs0 : w0.heap.size = w.heap.size + 1 := by rw [hw0]; simp
  unfold zero6 at hw0
  by_cases hlt : i < s.size
  · have k := hid (take_mid b s i w0 h0 hs hlt)
    have kf := hid fun w => fail_any b 5 w
    have ksp := hid fun (c : Nat) (hc : c < 256) w => span_any c c w hc hc
    have kby := hid fun a b c d w => bytesOf_any a b c d w
    have hx := (s[i]'hlt).toNat_lt
    rw [atom_at hlt]
    generalize (s[i]'hlt).toNat = x at *
    by_cases c40 : x = 40
    · subst c40
      rw [if_pos rfl]
      cases hD : W (i + 1) with
      | err c =>
        show Calls _ _ _ _ (RP b s w (.err c))
        go_enter Try.func51, Try.ntmps51
        go_upto_region 1 with fail
        rw [← hw0]
        clear hw0
        go_wp2_with fail
        refine k.out.mono ?_
        rintro e w1 ⟨rfl, hr, hg⟩
        have hG1 : Gr b w w1 := World.grownBy.trans hg0 hg
        have hs1 : w.heap.size + 1 ≤ w1.heap.size := by have := hg.size; omega
        have hz1 := (hg.block w.heap.size (by omega) (fun e => hne (Option.some.inj e))).trans hz0
        go_wp2_with fail
        refine (HW.out _ (i + 1) (by omega) hr (by omega)).mono ?_
        intro e w2 h2
        rw [hD] at h2
        obtain ⟨rfl, hg2⟩ := h2
        exact ⟨rfl, rfl, World.grownBy.trans hG1 hg2⟩
      | ok r j =>
        show Calls _ _ _ _ (RP b s w ((X3.take (LL s) j).bind fun c m => if c.toNat = 41 then .ok r m else .err 5))
        by_cases hl2 : j < s.size
        · rw [show (X3.take (LL s) j).bind (fun c m => if c.toNat = 41 then X3.PR.ok r m else .err 5) = (if (s[j]'hl2).toNat = 41 then X3.PR.ok r (j + 1) else .err 5) from by rw [x_take hl2]; rfl]
          have kt := hid fun (w : World) (h : Rd b s j w) => take_mid b s j w h hs hl2
          generalize (s[j]'hl2).toNat = y at *
          by_cases c41 : y = 41
          · subst c41
            rw [if_pos rfl]
            go_enter Try.func51, Try.ntmps51
            go_upto_region 1 with fail
            rw [← hw0]
            clear hw0
            go_wp2_with fail
            refine k.out.mono ?_
            rintro e w1 ⟨rfl, hr, hg⟩
            have hG1 : Gr b w w1 := World.grownBy.trans hg0 hg
            have hs1 : w.heap.size + 1 ≤ w1.heap.size := by have := hg.size; omega
            have hz1 := (hg.block w.heap.size (by omega) (fun e => hne (Option.some.inj e))).trans hz0
            go_wp2_with fail
            refine (HW.out _ (i + 1) (by omega) hr (by omega)).mono ?_
            intro e w2 h2
            rw [hD] at h2
            obtain ⟨v, rfl, hRv, hr2, hg2, hj⟩ := h2
            obtain ⟨ka, kx, ky, kz, ku, ko, kn, kc, rfl⟩ := hRv.shape
            have hb2' : b < w2.heap.size := by have := hg2.size; omega
            obtain ⟨w4, hw4⟩ : ∃ w4, w4 = w2.alloc (.cells #[.int .i64 ka, .int .u64 kx, .int .u64 ky, .int .u64 kz, .int .u64 ku, .slice ko kn kc] 28) := ⟨_, rfl⟩
            have hg4 : Gr b w2 w4 := by rw [hw4]; exact gr_alloc (Gr.refl b w2) _
            have hr4 : Rd b s j w4 := by rw [hw4]; exact (Below.heap_alloc _ _ _ hb2').trans hr2
            have hv4 : w4.heap[w2.heap.size]? = some (.cells #[.int .i64 ka, .int .u64 kx, .int .u64 ky, .int .u64 kz, .int .u64 ku, .slice ko kn kc] 28 (0, 0)) := by rw [hw4]; exact new_block _ _
            have hs4 : w4.heap.size = w2.heap.size + 1 := by rw [hw4]; simp
            have hn2 : w2.heap.size ≠ b := by omega
            go_upto_region 6 with fail
            rw [← hw4]
            clear hw4
            go_wp2_with fail
            refine (kt.out _ hr4).mono ?_
            rintro e w3 ⟨rfl, hr5, hg3⟩
            have hv3 := (hg3.block w2.heap.size (by omega) (fun e => hn2 (Option.some.inj e))).trans hv4
            have p0 : w3.cell? ⟨w2.heap.size, 0, none⟩ = some (.int .i64 ka) := by rw [Lib.cell_of_heap hv3]; rfl
            have p1 : w3.cell? ⟨w2.heap.size, 1, none⟩ = some (.int .u64 kx) := by rw [Lib.cell_of_heap hv3]; rfl
            have p2 : w3.cell? ⟨w2.heap.size, 2, none⟩ = some (.int .u64 ky) := by rw [Lib.cell_of_heap hv3]; rfl
            have p3 : w3.cell? ⟨w2.heap.size, 3, none⟩ = some (.int .u64 kz) := by rw [Lib.cell_of_heap hv3]; rfl
            have p4 : w3.cell? ⟨w2.heap.size, 4, none⟩ = some (.int .u64 ku) := by rw [Lib.cell_of_heap hv3]; rfl
            have p5 : w3.cell? ⟨w2.heap.size, 5, none⟩ = some (.slice ko kn kc) := by rw [Lib.cell_of_heap hv3]; rfl
            have hgA : Gr b w1 w3 := World.grownBy.trans hg2 (World.grownBy.trans hg4 hg3)
            have hz3 := (hgA.block w.heap.size (by omega) (fun e => hne (Option.some.inj e))).trans hz1
            have hG3 : Gr b w w3 := World.grownBy.trans hG1 hgA
            have hs3 : w.heap.size + 1 ≤ w3.heap.size := by have := hgA.size; omega
            have hr3 : w3.heap[b]? = some (.cells #[.string s, .int .i64 (((j + 1) : Nat) : Int)] 44 (0, 0)) := hr5
            unfold zero6 at hz3
            have n0 : w3.cell? ⟨w.heap.size, 0, none⟩ = some (.int .i64 0) := by rw [Lib.cell_of_heap hz3]; rfl
            have f0 : w3.frozen? ⟨w.heap.size, 0, none⟩ = false := Lib.frozen_of_heap hz3 0
            have n1 : w3.cell? ⟨w.heap.size, 1, none⟩ = some (.int .u64 0) := by rw [Lib.cell_of_heap hz3]; rfl
            have f1 : w3.frozen? ⟨w.heap.size, 1, none⟩ = false := Lib.frozen_of_heap hz3 1
            have n2 : w3.cell? ⟨w.heap.size, 2, none⟩ = some (.int .u64 0) := by rw [Lib.cell_of_heap hz3]; rfl
            have f2 : w3.frozen? ⟨w.heap.size, 2, none⟩ = false := Lib.frozen_of_heap hz3 2
            have n3 : w3.cell? ⟨w.heap.size, 3, none⟩ = some (.int .u64 0) := by rw [Lib.cell_of_heap hz3]; rfl
            have f3 : w3.frozen? ⟨w.heap.size, 3, none⟩ = false := Lib.frozen_of_heap hz3 3
            have n4 : w3.cell? ⟨w.heap.size, 4, none⟩ = some (.int .u64 0) := by rw [Lib.cell_of_heap hz3]; rfl
            have f4 : w3.frozen? ⟨w.heap.size, 4, none⟩ = false := Lib.frozen_of_heap hz3 4
            have n5 : w3.cell? ⟨w.heap.size, 5, none⟩ = some noKids := by rw [Lib.cell_of_heap hz3]; rfl
            have f5 : w3.frozen? ⟨w.heap.size, 5, none⟩ = false := Lib.frozen_of_heap hz3 5
            go_wp2_with fail
            have z0 := heap_setCell_same w3 w.heap.size 0 _ 28 (.int .i64 ka) hz3
            have z1 := heap_setCell_same _ w.heap.size 1 _ 28 (.int .u64 kx) z0
            have z2 := heap_setCell_same _ w.heap.size 2 _ 28 (.int .u64 ky) z1
            have z3 := heap_setCell_same _ w.heap.size 3 _ 28 (.int .u64 kz) z2
            have z4 := heap_setCell_same _ w.heap.size 4 _ 28 (.int .u64 ku) z3
            have z5 := heap_setCell_same _ w.heap.size 5 _ 28 (.slice ko kn kc) z4
            have hG8 : Gr b w ((((((w3.setCell ⟨w.heap.size, 0, none⟩ (.int .i64 ka)).setCell ⟨w.heap.size, 1, none⟩ (.int .u64 kx)).setCell ⟨w.heap.size, 2, none⟩ (.int .u64 ky)).setCell ⟨w.heap.size, 3, none⟩ (.int .u64 kz)).setCell ⟨w.heap.size, 4, none⟩ (.int .u64 ku)).setCell ⟨w.heap.size, 5, none⟩ (.slice ko kn kc)) := gr_new (gr_new (gr_new (gr_new (gr_new (gr_new hG3 (Nat.le_refl _) 0 _) (Nat.le_refl _) 1 _) (Nat.le_refl _) 2 _) (Nat.le_refl _) 3 _) (Nat.le_refl _) 4 _) (Nat.le_refl _) 5 _
            have hr8 : Rd b s (j + 1) ((((((w3.setCell ⟨w.heap.size, 0, none⟩ (.int .i64 ka)).setCell ⟨w.heap.size, 1, none⟩ (.int .u64 kx)).setCell ⟨w.heap.size, 2, none⟩ (.int .u64 ky)).setCell ⟨w.heap.size, 3, none⟩ (.int .u64 kz)).setCell ⟨w.heap.size, 4, none⟩ (.int .u64 ku)).setCell ⟨w.heap.size, 5, none⟩ (.slice ko kn kc)) := (Below.heap_setCell _ _ _ _ hbn).trans ((Below.heap_setCell _ _ _ _ hbn).trans ((Below.heap_setCell _ _ _ _ hbn).trans ((Below.heap_setCell _ _ _ _ hbn).trans ((Below.heap_setCell _ _ _ _ hbn).trans ((Below.heap_setCell _ _ _ _ hbn).trans (hr3))))))
            have hk8 : Keep (w1.heap.size) w3 ((((((w3.setCell ⟨w.heap.size, 0, none⟩ (.int .i64 ka)).setCell ⟨w.heap.size, 1, none⟩ (.int .u64 kx)).setCell ⟨w.heap.size, 2, none⟩ (.int .u64 ky)).setCell ⟨w.heap.size, 3, none⟩ (.int .u64 kz)).setCell ⟨w.heap.size, 4, none⟩ (.int .u64 ku)).setCell ⟨w.heap.size, 5, none⟩ (.slice ko kn kc)) := ⟨by simp, fun g h1 h2 => (Below.heap_setCell _ _ _ _ (by show g ≠ w.heap.size; omega)).trans ((Below.heap_setCell _ _ _ _ (by show g ≠ w.heap.size; omega)).trans ((Below.heap_setCell _ _ _ _ (by show g ≠ w.heap.size; omega)).trans ((Below.heap_setCell _ _ _ _ (by show g ≠ w.heap.size; omega)).trans ((Below.heap_setCell _ _ _ _ (by show g ≠ w.heap.size; omega)).trans ((Below.heap_setCell _ _ _ _ (by show g ≠ w.heap.size; omega)).trans (rfl))))))⟩
            generalize ((((((w3.setCell ⟨w.heap.size, 0, none⟩ (.int .i64 ka)).setCell ⟨w.heap.size, 1, none⟩ (.int .u64 kx)).setCell ⟨w.heap.size, 2, none⟩ (.int .u64 ky)).setCell ⟨w.heap.size, 3, none⟩ (.int .u64 kz)).setCell ⟨w.heap.size, 4, none⟩ (.int .u64 ku)).setCell ⟨w.heap.size, 5, none⟩ (.slice ko kn kc)) = w8 at *
            have y0 : w8.cell? ⟨w.heap.size, 0, none⟩ = some (.int .i64 ka) := by rw [Lib.cell_of_heap z5]; rfl
            have y1 : w8.cell? ⟨w.heap.size, 1, none⟩ = some (.int .u64 kx) := by rw [Lib.cell_of_heap z5]; rfl
            have y2 : w8.cell? ⟨w.heap.size, 2, none⟩ = some (.int .u64 ky) := by rw [Lib.cell_of_heap z5]; rfl
            have y3 : w8.cell? ⟨w.heap.size, 3, none⟩ = some (.int .u64 kz) := by rw [Lib.cell_of_heap z5]; rfl
            have y4 : w8.cell? ⟨w.heap.size, 4, none⟩ = some (.int .u64 ku) := by rw [Lib.cell_of_heap z5]; rfl
            have y5 : w8.cell? ⟨w.heap.size, 5, none⟩ = some (.slice ko kn kc) := by rw [Lib.cell_of_heap z5]; rfl
            exact bodyPost_ret (v := .agg #[(.int .i64 ka), (.int .u64 kx), (.int .u64 ky), (.int .u64 kz), (.int .u64 ku), (.slice ko kn kc)]) (by simp [results, Try.results51, go_sem, y0, y1, y2, y3, y4, y5]) rfl ⟨_, rfl, (((hRv.kept (keep_gr (b := b) (by omega) (World.grownBy.trans hg4 hg3)))).kept hk8).mono (by omega), hr8, hG8, (by omega)⟩
          · have n41 : ((y : Int) == 41) = false := by simp; omega
            rw [if_neg c41]
            go_enter Try.func51, Try.ntmps51
            go_upto_region 1 with fail
            rw [← hw0]
            clear hw0
            go_wp2_with fail
            refine k.out.mono ?_
            rintro e w1 ⟨rfl, hr, hg⟩
            have hG1 : Gr b w w1 := World.grownBy.trans hg0 hg
            have hs1 : w.heap.size + 1 ≤ w1.heap.size := by have := hg.size; omega
            have hz1 := (hg.block w.heap.size (by omega) (fun e => hne (Option.some.inj e))).trans hz0
            go_wp2_with fail
            refine (HW.out _ (i + 1) (by omega) hr (by omega)).mono ?_
            intro e w2 h2
            rw [hD] at h2
            obtain ⟨v, rfl, hRv, hr2, hg2, hj⟩ := h2
            obtain ⟨ka, kx, ky, kz, ku, ko, kn, kc, rfl⟩ := hRv.shape
            have hb2' : b < w2.heap.size := by have := hg2.size; omega
            obtain ⟨w4, hw4⟩ : ∃ w4, w4 = w2.alloc (.cells #[.int .i64 ka, .int .u64 kx, .int .u64 ky, .int .u64 kz, .int .u64 ku, .slice ko kn kc] 28) := ⟨_, rfl⟩
            have hg4 : Gr b w2 w4 := by rw [hw4]; exact gr_alloc (Gr.refl b w2) _
            have hr4 : Rd b s j w4 := by rw [hw4]; exact (Below.heap_alloc _ _ _ hb2').trans hr2
            have hv4 : w4.heap[w2.heap.size]? = some (.cells #[.int .i64 ka, .int .u64 kx, .int .u64 ky, .int .u64 kz, .int .u64 ku, .slice ko kn kc] 28 (0, 0)) := by rw [hw4]; exact new_block _ _
            have hs4 : w4.heap.size = w2.heap.size + 1 := by rw [hw4]; simp
            have hn2 : w2.heap.size ≠ b := by omega
            go_upto_region 6 with fail
            rw [← hw4]
            clear hw4
            go_wp2_with fail
            refine (kt.out _ hr4).mono ?_
            rintro e w3 ⟨rfl, hr5, hg3⟩
            go_wp2_with fail
            refine (kf.out _).mono ?_
            rintro e w5 ⟨rfl, rfl⟩
            exact ⟨rfl, rfl, World.grownBy.trans hG1 (World.grownBy.trans hg2 (World.grownBy.trans hg4 hg3))⟩
        · obtain rfl : j = s.size := by
            have hj' : j ≤ s.size := hWle hlt j r hD
            omega
          have kt := hid fun (w : World) (h : Rd b s s.size w) => take_end b s w h hs
          rw [show (X3.take (LL s) s.size).bind (fun c m => if c.toNat = 41 then X3.PR.ok r m else .err 5) = .err 5 from by rw [x_take_end]; rfl]
          go_enter Try.func51, Try.ntmps51
          go_upto_region 1 with fail
          rw [← hw0]
          clear hw0
          go_wp2_with fail
          refine k.out.mono ?_
          rintro e w1 ⟨rfl, hr, hg⟩
          have hG1 : Gr b w w1 := World.grownBy.trans hg0 hg
          have hs1 : w.heap.size + 1 ≤ w1.heap.size := by have := hg.size; omega
          have hz1 := (hg.block w.heap.size (by omega) (fun e => hne (Option.some.inj e))).trans hz0
          go_wp2_with fail
          refine (HW.out _ (i + 1) (by omega) hr (by omega)).mono ?_
          intro e w2 h2
          rw [hD] at h2
          obtain ⟨v, rfl, hRv, hr2, hg2, hj⟩ := h2
          obtain ⟨ka, kx, ky, kz, ku, ko, kn, kc, rfl⟩ := hRv.shape
          have hb2' : b < w2.heap.size := by have := hg2.size; omega
          obtain ⟨w4, hw4⟩ : ∃ w4, w4 = w2.alloc (.cells #[.int .i64 ka, .int .u64 kx, .int .u64 ky, .int .u64 kz, .int .u64 ku, .slice ko kn kc] 28) := ⟨_, rfl⟩
          have hg4 : Gr b w2 w4 := by rw [hw4]; exact gr_alloc (Gr.refl b w2) _
          have hr4 : Rd b s s.size w4 := by rw [hw4]; exact (Below.heap_alloc _ _ _ hb2').trans hr2
          have hv4 : w4.heap[w2.heap.size]? = some (.cells #[.int .i64 ka, .int .u64 kx, .int .u64 ky, .int .u64 kz, .int .u64 ku, .slice ko kn kc] 28 (0, 0)) := by rw [hw4]; exact new_block _ _
          have hs4 : w4.heap.size = w2.heap.size + 1 := by rw [hw4]; simp
          have hn2 : w2.heap.size ≠ b := by omega
          go_upto_region 6 with fail
          rw [← hw4]
          clear hw4
          go_wp2_with fail
          refine (kt.out _ hr4).mono ?_
          rintro e w3 ⟨rfl, hg3⟩
          exact ⟨rfl, rfl, World.grownBy.trans hG1 (World.grownBy.trans hg2 (World.grownBy.trans hg4 hg3))⟩
    rw [if_neg c40]
    have n40' : ((x : Int) == 40) = false := by simp; omega
    by_cases c91 : x = 91
    · subst c91
      rw [if_pos rfl]
      have ki := hid fun i w h hi => items_any b s i w h hs hi
      cases hD : X3.itemsX (LL s) (i + 1) with
      | err c =>
        go_enter Try.func51, Try.ntmps51
        go_upto_region 1 with fail
        rw [← hw0]
        clear hw0
        go_wp2_with fail
        refine k.out.mono ?_
        rintro e w1 ⟨rfl, hr, hg⟩
        have hG1 : Gr b w w1 := World.grownBy.trans hg0 hg
        have hs1 : w.heap.size + 1 ≤ w1.heap.size := by have := hg.size; omega
        have hz1 := (hg.block w.heap.size (by omega) (fun e => hne (Option.some.inj e))).trans hz0
        go_wp2_with fail
        refine (ki.out (i + 1) _ hr (by omega)).mono ?_
        intro e w2 h2
        rw [hD] at h2
        obtain ⟨rfl, hg2⟩ := h2
        exact ⟨rfl, rfl, World.grownBy.trans hG1 hg2⟩
      | ok r j =>
        go_enter Try.func51, Try.ntmps51
        go_upto_region 1 with fail
        rw [← hw0]
        clear hw0
        go_wp2_with fail
        refine k.out.mono ?_
        rintro e w1 ⟨rfl, hr, hg⟩
        have hG1 : Gr b w w1 := World.grownBy.trans hg0 hg
        have hs1 : w.heap.size + 1 ≤ w1.heap.size := by have := hg.size; omega
        have hz1 := (hg.block w.heap.size (by omega) (fun e => hne (Option.some.inj e))).trans hz0
        go_wp2_with fail
        refine (ki.out (i + 1) _ hr (by omega)).mono ?_
        intro e w2 h2
        rw [hD] at h2
        obtain ⟨v, rfl, hRv, hr2, hg2, hj⟩ := h2
        obtain ⟨ka, kx, ky, kz, ku, ko, kn, kc, rfl⟩ := hRv.shape
        have hgA : Gr b w1 w2 := hg2
        have hz3 := (hgA.block w.heap.size (by omega) (fun e => hne (Option.some.inj e))).trans hz1
        have hG3 : Gr b w w2 := World.grownBy.trans hG1 hgA
        have hs3 : w.heap.size + 1 ≤ w2.heap.size := by have := hgA.size; omega
        have hr3 : w2.heap[b]? = some (.cells #[.string s, .int .i64 ((j : Nat) : Int)] 44 (0, 0)) := hr2
        unfold zero6 at hz3
        have n0 : w2.cell? ⟨w.heap.size, 0, none⟩ = some (.int .i64 0) := by rw [Lib.cell_of_heap hz3]; rfl
        have f0 : w2.frozen? ⟨w.heap.size, 0, none⟩ = false := Lib.frozen_of_heap hz3 0
        have n1 : w2.cell? ⟨w.heap.size, 1, none⟩ = some (.int .u64 0) := by rw [Lib.cell_of_heap hz3]; rfl
        have f1 : w2.frozen? ⟨w.heap.size, 1, none⟩ = false := Lib.frozen_of_heap hz3 1
        have n2 : w2.cell? ⟨w.heap.size, 2, none⟩ = some (.int .u64 0) := by rw [Lib.cell_of_heap hz3]; rfl
        have f2 : w2.frozen? ⟨w.heap.size, 2, none⟩ = false := Lib.frozen_of_heap hz3 2
        have n3 : w2.cell? ⟨w.heap.size, 3, none⟩ = some (.int .u64 0) := by rw [Lib.cell_of_heap hz3]; rfl
        have f3 : w2.frozen? ⟨w.heap.size, 3, none⟩ = false := Lib.frozen_of_heap hz3 3
        have n4 : w2.cell? ⟨w.heap.size, 4, none⟩ = some (.int .u64 0) := by rw [Lib.cell_of_heap hz3]; rfl
        have f4 : w2.frozen? ⟨w.heap.size, 4, none⟩ = false := Lib.frozen_of_heap hz3 4
        have n5 : w2.cell? ⟨w.heap.size, 5, none⟩ = some noKids := by rw [Lib.cell_of_heap hz3]; rfl
        have f5 : w2.frozen? ⟨w.heap.size, 5, none⟩ = false := Lib.frozen_of_heap hz3 5
        go_wp2_with fail
        have z0 := heap_setCell_same w2 w.heap.size 0 _ 28 (.int .i64 ka) hz3
        have z1 := heap_setCell_same _ w.heap.size 1 _ 28 (.int .u64 kx) z0
        have z2 := heap_setCell_same _ w.heap.size 2 _ 28 (.int .u64 ky) z1
        have z3 := heap_setCell_same _ w.heap.size 3 _ 28 (.int .u64 kz) z2
        have z4 := heap_setCell_same _ w.heap.size 4 _ 28 (.int .u64 ku) z3
        have z5 := heap_setCell_same _ w.heap.size 5 _ 28 (.slice ko kn kc) z4
        have hG8 : Gr b w ((((((w2.setCell ⟨w.heap.size, 0, none⟩ (.int .i64 ka)).setCell ⟨w.heap.size, 1, none⟩ (.int .u64 kx)).setCell ⟨w.heap.size, 2, none⟩ (.int .u64 ky)).setCell ⟨w.heap.size, 3, none⟩ (.int .u64 kz)).setCell ⟨w.heap.size, 4, none⟩ (.int .u64 ku)).setCell ⟨w.heap.size, 5, none⟩ (.slice ko kn kc)) := gr_new (gr_new (gr_new (gr_new (gr_new (gr_new hG3 (Nat.le_refl _) 0 _) (Nat.le_refl _) 1 _) (Nat.le_refl _) 2 _) (Nat.le_refl _) 3 _) (Nat.le_refl _) 4 _) (Nat.le_refl _) 5 _
        have hr8 : Rd b s j ((((((w2.setCell ⟨w.heap.size, 0, none⟩ (.int .i64 ka)).setCell ⟨w.heap.size, 1, none⟩ (.int .u64 kx)).setCell ⟨w.heap.size, 2, none⟩ (.int .u64 ky)).setCell ⟨w.heap.size, 3, none⟩ (.int .u64 kz)).setCell ⟨w.heap.size, 4, none⟩ (.int .u64 ku)).setCell ⟨w.heap.size, 5, none⟩ (.slice ko kn kc)) := (Below.heap_setCell _ _ _ _ hbn).trans ((Below.heap_setCell _ _ _ _ hbn).trans ((Below.heap_setCell _ _ _ _ hbn).trans ((Below.heap_setCell _ _ _ _ hbn).trans ((Below.heap_setCell _ _ _ _ hbn).trans ((Below.heap_setCell _ _ _ _ hbn).trans (hr3))))))
        have hk8 : Keep (w1.heap.size) w2 ((((((w2.setCell ⟨w.heap.size, 0, none⟩ (.int .i64 ka)).setCell ⟨w.heap.size, 1, none⟩ (.int .u64 kx)).setCell ⟨w.heap.size, 2, none⟩ (.int .u64 ky)).setCell ⟨w.heap.size, 3, none⟩ (.int .u64 kz)).setCell ⟨w.heap.size, 4, none⟩ (.int .u64 ku)).setCell ⟨w.heap.size, 5, none⟩ (.slice ko kn kc)) := ⟨by simp, fun g h1 h2 => (Below.heap_setCell _ _ _ _ (by show g ≠ w.heap.size; omega)).trans ((Below.heap_setCell _ _ _ _ (by show g ≠ w.heap.size; omega)).trans ((Below.heap_setCell _ _ _ _ (by show g ≠ w.heap.size; omega)).trans ((Below.heap_setCell _ _ _ _ (by show g ≠ w.heap.size; omega)).trans ((Below.heap_setCell _ _ _ _ (by show g ≠ w.heap.size; omega)).trans ((Below.heap_setCell _ _ _ _ (by show g ≠ w.heap.size; omega)).trans (rfl))))))⟩
        generalize ((((((w2.setCell ⟨w.heap.size, 0, none⟩ (.int .i64 ka)).setCell ⟨w.heap.size, 1, none⟩ (.int .u64 kx)).setCell ⟨w.heap.size, 2, none⟩ (.int .u64 ky)).setCell ⟨w.heap.size, 3, none⟩ (.int .u64 kz)).setCell ⟨w.heap.size, 4, none⟩ (.int .u64 ku)).setCell ⟨w.heap.size, 5, none⟩ (.slice ko kn kc)) = w8 at *
        have y0 : w8.cell? ⟨w.heap.size, 0, none⟩ = some (.int .i64 ka) := by rw [Lib.cell_of_heap z5]; rfl
        have y1 : w8.cell? ⟨w.heap.size, 1, none⟩ = some (.int .u64 kx) := by rw [Lib.cell_of_heap z5]; rfl
        have y2 : w8.cell? ⟨w.heap.size, 2, none⟩ = some (.int .u64 ky) := by rw [Lib.cell_of_heap z5]; rfl
        have y3 : w8.cell? ⟨w.heap.size, 3, none⟩ = some (.int .u64 kz) := by rw [Lib.cell_of_heap z5]; rfl
        have y4 : w8.cell? ⟨w.heap.size, 4, none⟩ = some (.int .u64 ku) := by rw [Lib.cell_of_heap z5]; rfl
        have y5 : w8.cell? ⟨w.heap.size, 5, none⟩ = some (.slice ko kn kc) := by rw [Lib.cell_of_heap z5]; rfl
        exact bodyPost_ret (v := .agg #[(.int .i64 ka), (.int .u64 kx), (.int .u64 ky), (.int .u64 kz), (.int .u64 ku), (.slice ko kn kc)]) (by simp [results, Try.results51, go_sem, y0, y1, y2, y3, y4, y5]) rfl ⟨_, rfl, ((hRv).kept hk8).mono (by omega), hr8, hG8, hj⟩
    rw [if_neg c91]
    have n91' : ((x : Int) == 91) = false := by simp; omega
    by_cases c46 : x = 46
    · subst c46
      rw [if_pos rfl]
      go_enter Try.func51, Try.ntmps51
      go_upto_region 1 with fail
      rw [← hw0]
      clear hw0
      go_wp2_with fail
      refine k.out.mono ?_
      rintro e w1 ⟨rfl, hr, hg⟩
      have hG1 : Gr b w w1 := World.grownBy.trans hg0 hg
      have hs1 : w.heap.size + 1 ≤ w1.heap.size := by have := hg.size; omega
      have hz1 := (hg.block w.heap.size (by omega) (fun e => hne (Option.some.inj e))).trans hz0
      go_wp2_with fail
      refine (ksp.out 10 (by decide) _).mono ?_
      rintro e w2 ⟨rfl, hb2⟩
      go_wp2_with fail
      refine (except_any _ _ _ _ _ (X3.bits_lt _ _ _) (X3.bits_lt _ _ _) (X3.bits_lt _ _ _) (X3.bits_lt _ _ _)).mono ?_
      rintro e w4 ⟨rfl, hb4⟩
      go_wp2_with fail
      refine (kby.out _ _ _ _ _).mono ?_
      rintro e w3 ⟨rfl, hb3⟩
      have hb1' : b < w1.heap.size := by omega
      have hb2' : b < w2.heap.size := by have := hb2.size; omega
      have hb4' : b < w4.heap.size := by have := hb4.size; omega
      have hgA : Gr b w1 w3 := World.grownBy.trans (gr_below hb2) (World.grownBy.trans (gr_below hb4) (gr_below hb3))
      have hz3 := (hgA.block w.heap.size (by omega) (fun e => hne (Option.some.inj e))).trans hz1
      have hG3 : Gr b w w3 := World.grownBy.trans hG1 hgA
      have hs3 : w.heap.size + 1 ≤ w3.heap.size := by have := hgA.size; omega
      have hr3 : w3.heap[b]? = some (.cells #[.string s, .int .i64 (((i + 1) : Nat) : Int)] 44 (0, 0)) := (hb3.block b hb4').trans ((hb4.block b hb2').trans ((hb2.block b hb1').trans hr))
      unfold zero6 at hz3
      have n0 : w3.cell? ⟨w.heap.size, 0, none⟩ = some (.int .i64 0) := by rw [Lib.cell_of_heap hz3]; rfl
      have f0 : w3.frozen? ⟨w.heap.size, 0, none⟩ = false := Lib.frozen_of_heap hz3 0
      have n1 : w3.cell? ⟨w.heap.size, 1, none⟩ = some (.int .u64 0) := by rw [Lib.cell_of_heap hz3]; rfl
      have f1 : w3.frozen? ⟨w.heap.size, 1, none⟩ = false := Lib.frozen_of_heap hz3 1
      have n2 : w3.cell? ⟨w.heap.size, 2, none⟩ = some (.int .u64 0) := by rw [Lib.cell_of_heap hz3]; rfl
      have f2 : w3.frozen? ⟨w.heap.size, 2, none⟩ = false := Lib.frozen_of_heap hz3 2
      have n3 : w3.cell? ⟨w.heap.size, 3, none⟩ = some (.int .u64 0) := by rw [Lib.cell_of_heap hz3]; rfl
      have f3 : w3.frozen? ⟨w.heap.size, 3, none⟩ = false := Lib.frozen_of_heap hz3 3
      have n4 : w3.cell? ⟨w.heap.size, 4, none⟩ = some (.int .u64 0) := by rw [Lib.cell_of_heap hz3]; rfl
      have f4 : w3.frozen? ⟨w.heap.size, 4, none⟩ = false := Lib.frozen_of_heap hz3 4
      have n5 : w3.cell? ⟨w.heap.size, 5, none⟩ = some noKids := by rw [Lib.cell_of_heap hz3]; rfl
      have f5 : w3.frozen? ⟨w.heap.size, 5, none⟩ = false := Lib.frozen_of_heap hz3 5
      go_wp2_with fail
      have z0 := heap_setCell_same w3 w.heap.size 0 _ 28 (.int .i64 1) hz3
      have z1 := heap_setCell_same _ w.heap.size 1 _ 28 (.int .u64 ((X3.full ^^^ X3.bitsOf 10 10 0) : Nat)) z0
      have z2 := heap_setCell_same _ w.heap.size 2 _ 28 (.int .u64 ((X3.full ^^^ X3.bitsOf 10 10 1) : Nat)) z1
      have z3 := heap_setCell_same _ w.heap.size 3 _ 28 (.int .u64 ((X3.full ^^^ X3.bitsOf 10 10 2) : Nat)) z2
      have z4 := heap_setCell_same _ w.heap.size 4 _ 28 (.int .u64 ((X3.full ^^^ X3.bitsOf 10 10 3) : Nat)) z3
      have z5 := heap_setCell_same _ w.heap.size 5 _ 28 (noKids) z4
      have hG8 : Gr b w ((((((w3.setCell ⟨w.heap.size, 0, none⟩ (.int .i64 1)).setCell ⟨w.heap.size, 1, none⟩ (.int .u64 ((X3.full ^^^ X3.bitsOf 10 10 0) : Nat))).setCell ⟨w.heap.size, 2, none⟩ (.int .u64 ((X3.full ^^^ X3.bitsOf 10 10 1) : Nat))).setCell ⟨w.heap.size, 3, none⟩ (.int .u64 ((X3.full ^^^ X3.bitsOf 10 10 2) : Nat))).setCell ⟨w.heap.size, 4, none⟩ (.int .u64 ((X3.full ^^^ X3.bitsOf 10 10 3) : Nat))).setCell ⟨w.heap.size, 5, none⟩ (noKids)) := gr_new (gr_new (gr_new (gr_new (gr_new (gr_new hG3 (Nat.le_refl _) 0 _) (Nat.le_refl _) 1 _) (Nat.le_refl _) 2 _) (Nat.le_refl _) 3 _) (Nat.le_refl _) 4 _) (Nat.le_refl _) 5 _
      have hr8 : Rd b s (i + 1) ((((((w3.setCell ⟨w.heap.size, 0, none⟩ (.int .i64 1)).setCell ⟨w.heap.size, 1, none⟩ (.int .u64 ((X3.full ^^^ X3.bitsOf 10 10 0) : Nat))).setCell ⟨w.heap.size, 2, none⟩ (.int .u64 ((X3.full ^^^ X3.bitsOf 10 10 1) : Nat))).setCell ⟨w.heap.size, 3, none⟩ (.int .u64 ((X3.full ^^^ X3.bitsOf 10 10 2) : Nat))).setCell ⟨w.heap.size, 4, none⟩ (.int .u64 ((X3.full ^^^ X3.bitsOf 10 10 3) : Nat))).setCell ⟨w.heap.size, 5, none⟩ (noKids)) := (Below.heap_setCell _ _ _ _ hbn).trans ((Below.heap_setCell _ _ _ _ hbn).trans ((Below.heap_setCell _ _ _ _ hbn).trans ((Below.heap_setCell _ _ _ _ hbn).trans ((Below.heap_setCell _ _ _ _ hbn).trans ((Below.heap_setCell _ _ _ _ hbn).trans (hr3))))))
      have hk8 : Keep (w.heap.size + 1) w3 ((((((w3.setCell ⟨w.heap.size, 0, none⟩ (.int .i64 1)).setCell ⟨w.heap.size, 1, none⟩ (.int .u64 ((X3.full ^^^ X3.bitsOf 10 10 0) : Nat))).setCell ⟨w.heap.size, 2, none⟩ (.int .u64 ((X3.full ^^^ X3.bitsOf 10 10 1) : Nat))).setCell ⟨w.heap.size, 3, none⟩ (.int .u64 ((X3.full ^^^ X3.bitsOf 10 10 2) : Nat))).setCell ⟨w.heap.size, 4, none⟩ (.int .u64 ((X3.full ^^^ X3.bitsOf 10 10 3) : Nat))).setCell ⟨w.heap.size, 5, none⟩ (noKids)) := ⟨by simp, fun g h1 h2 => (Below.heap_setCell _ _ _ _ (by show g ≠ w.heap.size; omega)).trans ((Below.heap_setCell _ _ _ _ (by show g ≠ w.heap.size; omega)).trans ((Below.heap_setCell _ _ _ _ (by show g ≠ w.heap.size; omega)).trans ((Below.heap_setCell _ _ _ _ (by show g ≠ w.heap.size; omega)).trans ((Below.heap_setCell _ _ _ _ (by show g ≠ w.heap.size; omega)).trans ((Below.heap_setCell _ _ _ _ (by show g ≠ w.heap.size; omega)).trans (rfl))))))⟩
      generalize ((((((w3.setCell ⟨w.heap.size, 0, none⟩ (.int .i64 1)).setCell ⟨w.heap.size, 1, none⟩ (.int .u64 ((X3.full ^^^ X3.bitsOf 10 10 0) : Nat))).setCell ⟨w.heap.size, 2, none⟩ (.int .u64 ((X3.full ^^^ X3.bitsOf 10 10 1) : Nat))).setCell ⟨w.heap.size, 3, none⟩ (.int .u64 ((X3.full ^^^ X3.bitsOf 10 10 2) : Nat))).setCell ⟨w.heap.size, 4, none⟩ (.int .u64 ((X3.full ^^^ X3.bitsOf 10 10 3) : Nat))).setCell ⟨w.heap.size, 5, none⟩ (noKids)) = w8 at *
      have y0 : w8.cell? ⟨w.heap.size, 0, none⟩ = some (.int .i64 1) := by rw [Lib.cell_of_heap z5]; rfl
      have y1 : w8.cell? ⟨w.heap.size, 1, none⟩ = some (.int .u64 ((X3.full ^^^ X3.bitsOf 10 10 0) : Nat)) := by rw [Lib.cell_of_heap z5]; rfl
      have y2 : w8.cell? ⟨w.heap.size, 2, none⟩ = some (.int .u64 ((X3.full ^^^ X3.bitsOf 10 10 1) : Nat)) := by rw [Lib.cell_of_heap z5]; rfl
      have y3 : w8.cell? ⟨w.heap.size, 3, none⟩ = some (.int .u64 ((X3.full ^^^ X3.bitsOf 10 10 2) : Nat)) := by rw [Lib.cell_of_heap z5]; rfl
      have y4 : w8.cell? ⟨w.heap.size, 4, none⟩ = some (.int .u64 ((X3.full ^^^ X3.bitsOf 10 10 3) : Nat)) := by rw [Lib.cell_of_heap z5]; rfl
      have y5 : w8.cell? ⟨w.heap.size, 5, none⟩ = some (noKids) := by rw [Lib.cell_of_heap z5]; rfl
      exact bodyPost_ret (v := .agg #[(.int .i64 1), (.int .u64 ((X3.full ^^^ X3.bitsOf 10 10 0) : Nat)), (.int .u64 ((X3.full ^^^ X3.bitsOf 10 10 1) : Nat)), (.int .u64 ((X3.full ^^^ X3.bitsOf 10 10 2) : Nat)), (.int .u64 ((X3.full ^^^ X3.bitsOf 10 10 3) : Nat)), (noKids)]) (by simp [results, Try.results51, go_sem, y0, y1, y2, y3, y4, y5]) rfl ⟨_, rfl, ((Rep.bytes _ _ _ _ (xor_lt (X3.bits_lt _ _ _)) (xor_lt (X3.bits_lt _ _ _)) (xor_lt (X3.bits_lt _ _ _)) (xor_lt (X3.bits_lt _ _ _)) ).kept hk8).mono (by omega), hr8, hG8, (by omega)⟩
    rw [if_neg c46]
    have n46' : ((x : Int) == 46) = false := by simp; omega
    by_cases c92 : x = 92
    · subst c92
      rw [if_pos rfl]
      have ke := hid fun i w h hi => escaped_any b s i w h hs hi
      cases hD : X3.escX (LL s) (i + 1) with
      | err c =>
        show Calls _ _ _ _ (RP b s w (.err c))
        go_enter Try.func51, Try.ntmps51
        go_upto_region 1 with fail
        rw [← hw0]
        clear hw0
        go_wp2_with fail
        refine k.out.mono ?_
        rintro e w1 ⟨rfl, hr, hg⟩
        have hG1 : Gr b w w1 := World.grownBy.trans hg0 hg
        have hs1 : w.heap.size + 1 ≤ w1.heap.size := by have := hg.size; omega
        have hz1 := (hg.block w.heap.size (by omega) (fun e => hne (Option.some.inj e))).trans hz0
        go_wp2_with fail
        refine (ke.out (i + 1) _ hr (by omega)).mono ?_
        intro e w2 h2
        rw [hD] at h2
        obtain ⟨rfl, hg2⟩ := h2
        exact ⟨rfl, rfl, World.grownBy.trans hG1 hg2⟩
      | ok q j =>
        show Calls _ _ _ _ (RP b s w (.ok (X3.spanX q q) j))
        go_enter Try.func51, Try.ntmps51
        go_upto_region 1 with fail
        rw [← hw0]
        clear hw0
        go_wp2_with fail
        refine k.out.mono ?_
        rintro e w1 ⟨rfl, hr, hg⟩
        have hG1 : Gr b w w1 := World.grownBy.trans hg0 hg
        have hs1 : w.heap.size + 1 ≤ w1.heap.size := by have := hg.size; omega
        have hz1 := (hg.block w.heap.size (by omega) (fun e => hne (Option.some.inj e))).trans hz0
        go_wp2_with fail
        refine (ke.out (i + 1) _ hr (by omega)).mono ?_
        intro e w2 h2
        rw [hD] at h2
        obtain ⟨rfl, hr2, hg2, hj, hq⟩ := h2
        go_wp2_with fail
        refine (ksp.out q hq _).mono ?_
        rintro e w4 ⟨rfl, hb4⟩
        go_wp2_with fail
        refine (kby.out _ _ _ _ _).mono ?_
        rintro e w3 ⟨rfl, hb3⟩
        have hb2' : b < w2.heap.size := by have := hg2.size; omega
        have hb4' : b < w4.heap.size := by have := hb4.size; omega
        have hgA : Gr b w1 w3 := World.grownBy.trans hg2 (World.grownBy.trans (gr_below hb4) (gr_below hb3))
        have hz3 := (hgA.block w.heap.size (by omega) (fun e => hne (Option.some.inj e))).trans hz1
        have hG3 : Gr b w w3 := World.grownBy.trans hG1 hgA
        have hs3 : w.heap.size + 1 ≤ w3.heap.size := by have := hgA.size; omega
        have hr3 : w3.heap[b]? = some (.cells #[.string s, .int .i64 ((j : Nat) : Int)] 44 (0, 0)) := (hb3.block b hb4').trans ((hb4.block b hb2').trans hr2)
        unfold zero6 at hz3
        have n0 : w3.cell? ⟨w.heap.size, 0, none⟩ = some (.int .i64 0) := by rw [Lib.cell_of_heap hz3]; rfl
        have f0 : w3.frozen? ⟨w.heap.size, 0, none⟩ = false := Lib.frozen_of_heap hz3 0
        have n1 : w3.cell? ⟨w.heap.size, 1, none⟩ = some (.int .u64 0) := by rw [Lib.cell_of_heap hz3]; rfl
        have f1 : w3.frozen? ⟨w.heap.size, 1, none⟩ = false := Lib.frozen_of_heap hz3 1
        have n2 : w3.cell? ⟨w.heap.size, 2, none⟩ = some (.int .u64 0) := by rw [Lib.cell_of_heap hz3]; rfl
        have f2 : w3.frozen? ⟨w.heap.size, 2, none⟩ = false := Lib.frozen_of_heap hz3 2
        have n3 : w3.cell? ⟨w.heap.size, 3, none⟩ = some (.int .u64 0) := by rw [Lib.cell_of_heap hz3]; rfl
        have f3 : w3.frozen? ⟨w.heap.size, 3, none⟩ = false := Lib.frozen_of_heap hz3 3
        have n4 : w3.cell? ⟨w.heap.size, 4, none⟩ = some (.int .u64 0) := by rw [Lib.cell_of_heap hz3]; rfl
        have f4 : w3.frozen? ⟨w.heap.size, 4, none⟩ = false := Lib.frozen_of_heap hz3 4
        have n5 : w3.cell? ⟨w.heap.size, 5, none⟩ = some noKids := by rw [Lib.cell_of_heap hz3]; rfl
        have f5 : w3.frozen? ⟨w.heap.size, 5, none⟩ = false := Lib.frozen_of_heap hz3 5
        go_wp2_with fail
        have z0 := heap_setCell_same w3 w.heap.size 0 _ 28 (.int .i64 1) hz3
        have z1 := heap_setCell_same _ w.heap.size 1 _ 28 (.int .u64 ((X3.bitsOf q q 0) : Nat)) z0
        have z2 := heap_setCell_same _ w.heap.size 2 _ 28 (.int .u64 ((X3.bitsOf q q 1) : Nat)) z1
        have z3 := heap_setCell_same _ w.heap.size 3 _ 28 (.int .u64 ((X3.bitsOf q q 2) : Nat)) z2
        have z4 := heap_setCell_same _ w.heap.size 4 _ 28 (.int .u64 ((X3.bitsOf q q 3) : Nat)) z3
        have z5 := heap_setCell_same _ w.heap.size 5 _ 28 (noKids) z4
        have hG8 : Gr b w ((((((w3.setCell ⟨w.heap.size, 0, none⟩ (.int .i64 1)).setCell ⟨w.heap.size, 1, none⟩ (.int .u64 ((X3.bitsOf q q 0) : Nat))).setCell ⟨w.heap.size, 2, none⟩ (.int .u64 ((X3.bitsOf q q 1) : Nat))).setCell ⟨w.heap.size, 3, none⟩ (.int .u64 ((X3.bitsOf q q 2) : Nat))).setCell ⟨w.heap.size, 4, none⟩ (.int .u64 ((X3.bitsOf q q 3) : Nat))).setCell ⟨w.heap.size, 5, none⟩ (noKids)) := gr_new (gr_new (gr_new (gr_new (gr_new (gr_new hG3 (Nat.le_refl _) 0 _) (Nat.le_refl _) 1 _) (Nat.le_refl _) 2 _) (Nat.le_refl _) 3 _) (Nat.le_refl _) 4 _) (Nat.le_refl _) 5 _
        have hr8 : Rd b s j ((((((w3.setCell ⟨w.heap.size, 0, none⟩ (.int .i64 1)).setCell ⟨w.heap.size, 1, none⟩ (.int .u64 ((X3.bitsOf q q 0) : Nat))).setCell ⟨w.heap.size, 2, none⟩ (.int .u64 ((X3.bitsOf q q 1) : Nat))).setCell ⟨w.heap.size, 3, none⟩ (.int .u64 ((X3.bitsOf q q 2) : Nat))).setCell ⟨w.heap.size, 4, none⟩ (.int .u64 ((X3.bitsOf q q 3) : Nat))).setCell ⟨w.heap.size, 5, none⟩ (noKids)) := (Below.heap_setCell _ _ _ _ hbn).trans ((Below.heap_setCell _ _ _ _ hbn).trans ((Below.heap_setCell _ _ _ _ hbn).trans ((Below.heap_setCell _ _ _ _ hbn).trans ((Below.heap_setCell _ _ _ _ hbn).trans ((Below.heap_setCell _ _ _ _ hbn).trans (hr3))))))
        have hk8 : Keep (w.heap.size + 1) w3 ((((((w3.setCell ⟨w.heap.size, 0, none⟩ (.int .i64 1)).setCell ⟨w.heap.size, 1, none⟩ (.int .u64 ((X3.bitsOf q q 0) : Nat))).setCell ⟨w.heap.size, 2, none⟩ (.int .u64 ((X3.bitsOf q q 1) : Nat))).setCell ⟨w.heap.size, 3, none⟩ (.int .u64 ((X3.bitsOf q q 2) : Nat))).setCell ⟨w.heap.size, 4, none⟩ (.int .u64 ((X3.bitsOf q q 3) : Nat))).setCell ⟨w.heap.size, 5, none⟩ (noKids)) := ⟨by simp, fun g h1 h2 => (Below.heap_setCell _ _ _ _ (by show g ≠ w.heap.size; omega)).trans ((Below.heap_setCell _ _ _ _ (by show g ≠ w.heap.size; omega)).trans ((Below.heap_setCell _ _ _ _ (by show g ≠ w.heap.size; omega)).trans ((Below.heap_setCell _ _ _ _ (by show g ≠ w.heap.size; omega)).trans ((Below.heap_setCell _ _ _ _ (by show g ≠ w.heap.size; omega)).trans ((Below.heap_setCell _ _ _ _ (by show g ≠ w.heap.size; omega)).trans (rfl))))))⟩
        generalize ((((((w3.setCell ⟨w.heap.size, 0, none⟩ (.int .i64 1)).setCell ⟨w.heap.size, 1, none⟩ (.int .u64 ((X3.bitsOf q q 0) : Nat))).setCell ⟨w.heap.size, 2, none⟩ (.int .u64 ((X3.bitsOf q q 1) : Nat))).setCell ⟨w.heap.size, 3, none⟩ (.int .u64 ((X3.bitsOf q q 2) : Nat))).setCell ⟨w.heap.size, 4, none⟩ (.int .u64 ((X3.bitsOf q q 3) : Nat))).setCell ⟨w.heap.size, 5, none⟩ (noKids)) = w8 at *
        have y0 : w8.cell? ⟨w.heap.size, 0, none⟩ = some (.int .i64 1) := by rw [Lib.cell_of_heap z5]; rfl
        have y1 : w8.cell? ⟨w.heap.size, 1, none⟩ = some (.int .u64 ((X3.bitsOf q q 0) : Nat)) := by rw [Lib.cell_of_heap z5]; rfl
        have y2 : w8.cell? ⟨w.heap.size, 2, none⟩ = some (.int .u64 ((X3.bitsOf q q 1) : Nat)) := by rw [Lib.cell_of_heap z5]; rfl
        have y3 : w8.cell? ⟨w.heap.size, 3, none⟩ = some (.int .u64 ((X3.bitsOf q q 2) : Nat)) := by rw [Lib.cell_of_heap z5]; rfl
        have y4 : w8.cell? ⟨w.heap.size, 4, none⟩ = some (.int .u64 ((X3.bitsOf q q 3) : Nat)) := by rw [Lib.cell_of_heap z5]; rfl
        have y5 : w8.cell? ⟨w.heap.size, 5, none⟩ = some (noKids) := by rw [Lib.cell_of_heap z5]; rfl
        exact bodyPost_ret (v := .agg #[(.int .i64 1), (.int .u64 ((X3.bitsOf q q 0) : Nat)), (.int .u64 ((X3.bitsOf q q 1) : Nat)), (.int .u64 ((X3.bitsOf q q 2) : Nat)), (.int .u64 ((X3.bitsOf q q 3) : Nat)), (noKids)]) (by simp [results, Try.results51, go_sem, y0, y1, y2, y3, y4, y5]) rfl ⟨_, rfl, ((Rep.bytes _ _ _ _ (X3.bits_lt _ _ _) (X3.bits_lt _ _ _) (X3.bits_lt _ _ _) (X3.bits_lt _ _ _)).kept hk8).mono (by omega), hr8, hG8, hj⟩
    rw [if_neg c92]
    have n92' : ((x : Int) == 92) = false := by simp; omega
    by_cases c93 : x = 93
    · subst c93
      rw [if_pos (by omega)]
      go_enter Try.func51, Try.ntmps51
      go_upto_region 1 with fail
      rw [← hw0]
      clear hw0
      go_wp2_with fail
      refine k.out.mono ?_
      rintro e w1 ⟨rfl, hr, hg⟩
      have hG1 : Gr b w w1 := World.grownBy.trans hg0 hg
      have hs1 : w.heap.size + 1 ≤ w1.heap.size := by have := hg.size; omega
      have hz1 := (hg.block w.heap.size (by omega) (fun e => hne (Option.some.inj e))).trans hz0
      go_wp2_with fail
      refine (kf.out _).mono ?_
      rintro e w2 ⟨rfl, rfl⟩
      exact ⟨rfl, rfl, hG1⟩
    have n93' : ((x : Int) == 93) = false := by simp; omega
    by_cases c42 : x = 42
    · subst c42
      rw [if_pos (by omega)]
      go_enter Try.func51, Try.ntmps51
      go_upto_region 1 with fail
      rw [← hw0]
      clear hw0
      go_wp2_with fail
      refine k.out.mono ?_
      rintro e w1 ⟨rfl, hr, hg⟩
      have hG1 : Gr b w w1 := World.grownBy.trans hg0 hg
      have hs1 : w.heap.size + 1 ≤ w1.heap.size := by have := hg.size; omega
      have hz1 := (hg.block w.heap.size (by omega) (fun e => hne (Option.some.inj e))).trans hz0
      go_wp2_with fail
      refine (kf.out _).mono ?_
      rintro e w2 ⟨rfl, rfl⟩
      exact ⟨rfl, rfl, hG1⟩
    have n42' : ((x : Int) == 42) = false := by simp; omega
    by_cases c43 : x = 43
    · subst c43
      rw [if_pos (by omega)]
      go_enter Try.func51, Try.ntmps51
      go_upto_region 1 with fail
      rw [← hw0]
      clear hw0
      go_wp2_with fail
      refine k.out.mono ?_
      rintro e w1 ⟨rfl, hr, hg⟩
      have hG1 : Gr b w w1 := World.grownBy.trans hg0 hg
      have hs1 : w.heap.size + 1 ≤ w1.heap.size := by have := hg.size; omega
      have hz1 := (hg.block w.heap.size (by omega) (fun e => hne (Option.some.inj e))).trans hz0
      go_wp2_with fail
      refine (kf.out _).mono ?_
      rintro e w2 ⟨rfl, rfl⟩
      exact ⟨rfl, rfl, hG1⟩
    have n43' : ((x : Int) == 43) = false := by simp; omega
    by_cases c63 : x = 63
    · subst c63
      rw [if_pos (by omega)]
      go_enter Try.func51, Try.ntmps51
      go_upto_region 1 with fail
      rw [← hw0]
      clear hw0
      go_wp2_with fail
      refine k.out.mono ?_
      rintro e w1 ⟨rfl, hr, hg⟩
      have hG1 : Gr b w w1 := World.grownBy.trans hg0 hg
      have hs1 : w.heap.size + 1 ≤ w1.heap.size := by have := hg.size; omega
      have hz1 := (hg.block w.heap.size (by omega) (fun e => hne (Option.some.inj e))).trans hz0
      go_wp2_with fail
      refine (kf.out _).mono ?_
      rintro e w2 ⟨rfl, rfl⟩
      exact ⟨rfl, rfl, hG1⟩
    have n63' : ((x : Int) == 63) = false := by simp; omega
    by_cases c124 : x = 124
    · subst c124
      rw [if_pos (by omega)]
      go_enter Try.func51, Try.ntmps51
      go_upto_region 1 with fail
      rw [← hw0]
      clear hw0
      go_wp2_with fail
      refine k.out.mono ?_
      rintro e w1 ⟨rfl, hr, hg⟩
      have hG1 : Gr b w w1 := World.grownBy.trans hg0 hg
      have hs1 : w.heap.size + 1 ≤ w1.heap.size := by have := hg.size; omega
      have hz1 := (hg.block w.heap.size (by omega) (fun e => hne (Option.some.inj e))).trans hz0
      go_wp2_with fail
      refine (kf.out _).mono ?_
      rintro e w2 ⟨rfl, rfl⟩
      exact ⟨rfl, rfl, hG1⟩
    have n124' : ((x : Int) == 124) = false := by simp; omega
    by_cases c41 : x = 41
    · subst c41
      rw [if_pos (by omega)]
      go_enter Try.func51, Try.ntmps51
      go_upto_region 1 with fail
      rw [← hw0]
      clear hw0
      go_wp2_with fail
      refine k.out.mono ?_
      rintro e w1 ⟨rfl, hr, hg⟩
      have hG1 : Gr b w w1 := World.grownBy.trans hg0 hg
      have hs1 : w.heap.size + 1 ≤ w1.heap.size := by have := hg.size; omega
      have hz1 := (hg.block w.heap.size (by omega) (fun e => hne (Option.some.inj e))).trans hz0
      go_wp2_with fail
      refine (kf.out _).mono ?_
      rintro e w2 ⟨rfl, rfl⟩
      exact ⟨rfl, rfl, hG1⟩
    have n41' : ((x : Int) == 41) = false := by simp; omega
    rw [if_neg (by omega)]
    go_enter Try.func51, Try.ntmps51
    go_upto_region 1 with fail
    rw [← hw0]
    clear hw0
    go_wp2_with fail
    refine k.out.mono ?_
    rintro e w1 ⟨rfl, hr, hg⟩
    have hG1 : Gr b w w1 := World.grownBy.trans hg0 hg
    have hs1 : w.heap.size + 1 ≤ w1.heap.size := by have := hg.size; omega
    have hz1 := (hg.block w.heap.size (by omega) (fun e => hne (Option.some.inj e))).trans hz0
    go_wp2_with fail
    refine (ksp.out x (by omega) _).mono ?_
    rintro e w2 ⟨rfl, hb2⟩
    go_wp2_with fail
    refine (kby.out _ _ _ _ _).mono ?_
    rintro e w3 ⟨rfl, hb3⟩
    have hgA : Gr b w1 w3 := World.grownBy.trans (gr_below hb2) (gr_below hb3)
    have hz3 := (hgA.block w.heap.size (by omega) (fun e => hne (Option.some.inj e))).trans hz1
    have hG3 : Gr b w w3 := World.grownBy.trans hG1 hgA
    have hs3 : w.heap.size + 1 ≤ w3.heap.size := by have := hgA.size; omega
    have hb1' : b < w1.heap.size := by omega
    have hb2' : b < w2.heap.size := by have := hb2.size; omega
    have hr3 : w3.heap[b]? = some (.cells #[.string s, .int .i64 ((i + 1 : Nat) : Int)] 44 (0, 0)) := (hb3.block b hb2').trans ((hb2.block b hb1').trans hr)
    unfold zero6 at hz3
    have n0 : w3.cell? ⟨w.heap.size, 0, none⟩ = some (.int .i64 0) := by rw [Lib.cell_of_heap hz3]; rfl
    have f0 : w3.frozen? ⟨w.heap.size, 0, none⟩ = false := Lib.frozen_of_heap hz3 0
    have n1 : w3.cell? ⟨w.heap.size, 1, none⟩ = some (.int .u64 0) := by rw [Lib.cell_of_heap hz3]; rfl
    have f1 : w3.frozen? ⟨w.heap.size, 1, none⟩ = false := Lib.frozen_of_heap hz3 1
    have n2 : w3.cell? ⟨w.heap.size, 2, none⟩ = some (.int .u64 0) := by rw [Lib.cell_of_heap hz3]; rfl
    have f2 : w3.frozen? ⟨w.heap.size, 2, none⟩ = false := Lib.frozen_of_heap hz3 2
    have n3 : w3.cell? ⟨w.heap.size, 3, none⟩ = some (.int .u64 0) := by rw [Lib.cell_of_heap hz3]; rfl
    have f3 : w3.frozen? ⟨w.heap.size, 3, none⟩ = false := Lib.frozen_of_heap hz3 3
    have n4 : w3.cell? ⟨w.heap.size, 4, none⟩ = some (.int .u64 0) := by rw [Lib.cell_of_heap hz3]; rfl
    have f4 : w3.frozen? ⟨w.heap.size, 4, none⟩ = false := Lib.frozen_of_heap hz3 4
    have n5 : w3.cell? ⟨w.heap.size, 5, none⟩ = some noKids := by rw [Lib.cell_of_heap hz3]; rfl
    have f5 : w3.frozen? ⟨w.heap.size, 5, none⟩ = false := Lib.frozen_of_heap hz3 5
    go_wp2_with fail
    have z0 := heap_setCell_same w3 w.heap.size 0 _ 28 (.int .i64 1) hz3
    have z1 := heap_setCell_same _ w.heap.size 1 _ 28 (.int .u64 ((X3.bitsOf x x 0) : Nat)) z0
    have z2 := heap_setCell_same _ w.heap.size 2 _ 28 (.int .u64 ((X3.bitsOf x x 1) : Nat)) z1
    have z3 := heap_setCell_same _ w.heap.size 3 _ 28 (.int .u64 ((X3.bitsOf x x 2) : Nat)) z2
    have z4 := heap_setCell_same _ w.heap.size 4 _ 28 (.int .u64 ((X3.bitsOf x x 3) : Nat)) z3
    have z5 := heap_setCell_same _ w.heap.size 5 _ 28 (noKids) z4
    have hG8 : Gr b w ((((((w3.setCell ⟨w.heap.size, 0, none⟩ (.int .i64 1)).setCell ⟨w.heap.size, 1, none⟩ (.int .u64 ((X3.bitsOf x x 0) : Nat))).setCell ⟨w.heap.size, 2, none⟩ (.int .u64 ((X3.bitsOf x x 1) : Nat))).setCell ⟨w.heap.size, 3, none⟩ (.int .u64 ((X3.bitsOf x x 2) : Nat))).setCell ⟨w.heap.size, 4, none⟩ (.int .u64 ((X3.bitsOf x x 3) : Nat))).setCell ⟨w.heap.size, 5, none⟩ (noKids)) := gr_new (gr_new (gr_new (gr_new (gr_new (gr_new hG3 (Nat.le_refl _) 0 _) (Nat.le_refl _) 1 _) (Nat.le_refl _) 2 _) (Nat.le_refl _) 3 _) (Nat.le_refl _) 4 _) (Nat.le_refl _) 5 _
    have hr8 : Rd b s (i + 1) ((((((w3.setCell ⟨w.heap.size, 0, none⟩ (.int .i64 1)).setCell ⟨w.heap.size, 1, none⟩ (.int .u64 ((X3.bitsOf x x 0) : Nat))).setCell ⟨w.heap.size, 2, none⟩ (.int .u64 ((X3.bitsOf x x 1) : Nat))).setCell ⟨w.heap.size, 3, none⟩ (.int .u64 ((X3.bitsOf x x 2) : Nat))).setCell ⟨w.heap.size, 4, none⟩ (.int .u64 ((X3.bitsOf x x 3) : Nat))).setCell ⟨w.heap.size, 5, none⟩ (noKids)) := (Below.heap_setCell _ _ _ _ hbn).trans ((Below.heap_setCell _ _ _ _ hbn).trans ((Below.heap_setCell _ _ _ _ hbn).trans ((Below.heap_setCell _ _ _ _ hbn).trans ((Below.heap_setCell _ _ _ _ hbn).trans ((Below.heap_setCell _ _ _ _ hbn).trans (hr3))))))
    have hk8 : Keep (w.heap.size + 1) w3 ((((((w3.setCell ⟨w.heap.size, 0, none⟩ (.int .i64 1)).setCell ⟨w.heap.size, 1, none⟩ (.int .u64 ((X3.bitsOf x x 0) : Nat))).setCell ⟨w.heap.size, 2, none⟩ (.int .u64 ((X3.bitsOf x x 1) : Nat))).setCell ⟨w.heap.size, 3, none⟩ (.int .u64 ((X3.bitsOf x x 2) : Nat))).setCell ⟨w.heap.size, 4, none⟩ (.int .u64 ((X3.bitsOf x x 3) : Nat))).setCell ⟨w.heap.size, 5, none⟩ (noKids)) := ⟨by simp, fun g h1 h2 => (Below.heap_setCell _ _ _ _ (by show g ≠ w.heap.size; omega)).trans ((Below.heap_setCell _ _ _ _ (by show g ≠ w.heap.size; omega)).trans ((Below.heap_setCell _ _ _ _ (by show g ≠ w.heap.size; omega)).trans ((Below.heap_setCell _ _ _ _ (by show g ≠ w.heap.size; omega)).trans ((Below.heap_setCell _ _ _ _ (by show g ≠ w.heap.size; omega)).trans ((Below.heap_setCell _ _ _ _ (by show g ≠ w.heap.size; omega)).trans (rfl))))))⟩
    generalize ((((((w3.setCell ⟨w.heap.size, 0, none⟩ (.int .i64 1)).setCell ⟨w.heap.size, 1, none⟩ (.int .u64 ((X3.bitsOf x x 0) : Nat))).setCell ⟨w.heap.size, 2, none⟩ (.int .u64 ((X3.bitsOf x x 1) : Nat))).setCell ⟨w.heap.size, 3, none⟩ (.int .u64 ((X3.bitsOf x x 2) : Nat))).setCell ⟨w.heap.size, 4, none⟩ (.int .u64 ((X3.bitsOf x x 3) : Nat))).setCell ⟨w.heap.size, 5, none⟩ (noKids)) = w8 at *
    have y0 : w8.cell? ⟨w.heap.size, 0, none⟩ = some (.int .i64 1) := by rw [Lib.cell_of_heap z5]; rfl
    have y1 : w8.cell? ⟨w.heap.size, 1, none⟩ = some (.int .u64 ((X3.bitsOf x x 0) : Nat)) := by rw [Lib.cell_of_heap z5]; rfl
    have y2 : w8.cell? ⟨w.heap.size, 2, none⟩ = some (.int .u64 ((X3.bitsOf x x 1) : Nat)) := by rw [Lib.cell_of_heap z5]; rfl
    have y3 : w8.cell? ⟨w.heap.size, 3, none⟩ = some (.int .u64 ((X3.bitsOf x x 2) : Nat)) := by rw [Lib.cell_of_heap z5]; rfl
    have y4 : w8.cell? ⟨w.heap.size, 4, none⟩ = some (.int .u64 ((X3.bitsOf x x 3) : Nat)) := by rw [Lib.cell_of_heap z5]; rfl
    have y5 : w8.cell? ⟨w.heap.size, 5, none⟩ = some (noKids) := by rw [Lib.cell_of_heap z5]; rfl
    exact bodyPost_ret (v := .agg #[(.int .i64 1), (.int .u64 ((X3.bitsOf x x 0) : Nat)), (.int .u64 ((X3.bitsOf x x 1) : Nat)), (.int .u64 ((X3.bitsOf x x 2) : Nat)), (.int .u64 ((X3.bitsOf x x 3) : Nat)), (noKids)]) (by simp [results, Try.results51, go_sem, y0, y1, y2, y3, y4, y5]) rfl ⟨_, rfl, ((Rep.bytes _ _ _ _ (X3.bits_lt _ _ _) (X3.bits_lt _ _ _) (X3.bits_lt _ _ _) (X3.bits_lt _ _ _)).kept hk8).mono (by omega), hr8, hG8, (by omega)⟩
  · obtain rfl : i = s.size := by omega
    have k := hid (take_end b s w0 h0 hs)
    have e1 : X3.atomX W (LL s) s.size = .err 5 := by unfold X3.atomX; rw [x_take_end]; rfl
    rw [e1]
    go_enter Try.func51, Try.ntmps51
    go_upto_region 1 with fail
    rw [← hw0]
    clear hw0
    go_wp2_with fail
    refine k.out.mono ?_
    rintro e w1 ⟨rfl, hg⟩
    exact ⟨rfl, rfl, World.grownBy.trans hg0 hg⟩

end Go.Proofs.Ytndefngkkikkeaa
