/- regex's reader: items. -/
import Derived.Test.YtochckefnjobhaaGreatDoorRh
import Derived.Deep.Cut
namespace Go.Proofs.YtochckefnjobhaaGreatDoor
open Go Go.RowKit Go.Lib
set_option linter.unusedVariables false
abbrev ptr (b : Nat) : Value := .pointer (some ⟨b, 0, none⟩)
def zero6 : Array Value := #[.int .i64 0, .int .u64 0, .int .u64 0, .int .u64 0, .int .u64 0, noKids]
theorem itemsL_round (L : List UInt8) (f j : Nat) (acc : X3.RX) : X3.itemsL L (f + 1) j acc = if X3.passed L j 93 then .ok acc (j + 1) else (X3.itemX L j).bind fun r k => X3.itemsL L f k (X3.orX acc r) := rfl
def orTo (A B C D a b c d q : Nat) : Array Value := #[U (if 0 < q then A ||| a else A), U (if 1 < q then B ||| b else B), U (if 2 < q then C ||| c else C), U (if 3 < q then D ||| d else D)]
def fin94 (p : Bool) (r : X3.PR X3.RX) : X3.PR X3.RX := if p then r.bind fun r j => .ok (X3.exceptX r) j else r
theorem itemsX_fin (L : List UInt8) (i : Nat) : X3.itemsX L i = fin94 (X3.passed L i 94) (X3.itemsL L (L.length + 1) (if X3.passed L i 94 then i + 1 else i) (.bytes 0 0 0 0)) := by
 unfold X3.itemsX fin94
 cases X3.passed L i 94 <;> rfl
theorem fin94_err (p : Bool) (c : Nat) : fin94 p (.err c) = .err c := by cases p <;> rfl
theorem xor_lt {a : Nat} (h : a < 2 ^ 64) : X3.full ^^^ a < 2 ^ 64 := Nat.xor_lt_two_pow (by decide) h
set_option maxRecDepth 100000 in
set_option maxHeartbeats 4000000 in
theorem items_any (b : Nat) (s : ByteArray) (i : Nat) (w : World) (h : Rd b s i w) (hs : s.size ≤ maxLen) (hi : i ≤ s.size) :
  Calls Tryz.prog 137 #[ptr b] w (RP b s w (X3.itemsX (LL s) i)) := by
 have kp := hid fun (w : World) (i : Nat) (c : Nat) (h : Rd b s i w) (hi : i ≤ s.size) => passed_any b s c i w h hs hi
 have ki := hid fun (w : World) (i : Nat) (h : Rd b s i w) (hi : i ≤ s.size) => itemByte_any b s i w h hs hi
 have kf := hid fun w => fail_any b 5 w
 have hbw : b < w.heap.size := (Array.getElem?_eq_some_iff.1 h).1
 rw [itemsX_fin]
 obtain ⟨w0, hw0⟩ : ∃ w0, w0 = (w.alloc (.cells zero6 46)).alloc (.cells #[.int .u64 0, .int .u64 0, .int .u64 0, .int .u64 0] 43) := ⟨_, rfl⟩
 have hg0 : Gr b w w0 := by rw [hw0]; exact gr_alloc (gr_alloc (Gr.refl b w) _) _
 have h0 : Rd b s i w0 := by rw [hw0]; exact (Below.heap_alloc _ _ _ (by simp; omega)).trans ((Below.heap_alloc _ _ _ hbw).trans h)
 have hl0 : w0.heap[w.heap.size + 1]? = some (.cells #[.int .u64 0, .int .u64 0, .int .u64 0, .int .u64 0] 43 (0, 0)) := by rw [hw0]; exact new_block2 _ _ _
 have hz0 : w0.heap[w.heap.size]? = some (.cells zero6 46 (0, 0)) := by rw [hw0]; exact (Below.heap_alloc _ _ _ (by simp)).trans (new_block _ _)
 have hsz0 : w0.heap.size = w.heap.size + 1 + 1 := by rw [hw0]; simp
 have k94 := kp.out w0 i 94 h0 hi
 have hle : (if X3.passed (LL s) i 94 then i + 1 else i) ≤ s.size := by
  split
  ·rename_i c; exact passed_le c
  ·exact hi
 generalize hi1 : (if X3.passed (LL s) i 94 then i + 1 else i) = i1 at *
 generalize hp94 : X3.passed (LL s) i 94 = p94 at *
 clear hi1 hp94
 have hfe := fin94_err p94
 generalize hR0 : X3.itemsL (LL s) ((LL s).length + 1) i1 (.bytes 0 0 0 0) = R0 at *
 have hfk : ∀ A B C D k, R0 = .ok (.bytes A B C D) k → fin94 p94 R0 = .ok (if p94 then X3.exceptX (.bytes A B C D) else .bytes A B C D) k := by
  rintro A B C D k rfl
  cases p94 <;> rfl
 have hfe2 : ∀ c, R0 = .err c → fin94 p94 R0 = .err c := by rintro c rfl; exact hfe c
 clear hfe
 generalize fin94 p94 R0 = RR at *
 have K94 := hid k94
 have HFK := hid hfk
 have HR0 := hid hR0
 clear k94 hfk hR0
 go_enter Tryz.func137, Tryz.ntmps137
 go_wp2_with fail
 unfold zero6 at hw0
 rw [← hw0]
 refine K94.out.mono ?_
 rintro e w1 ⟨rfl, hr1, hg1⟩
 clear K94 hw0
 have hne1 : w.heap.size + 1 ≠ b := by omega
 have hne0 : w.heap.size ≠ b := by omega
 have hl1 := (hg1.block (w.heap.size + 1) (by omega) (fun e => hne1 (Option.some.inj e))).trans hl0
 have hz1 := (hg1.block w.heap.size (by omega) (fun e => hne0 (Option.some.inj e))).trans hz0
 have hG1 : Gr b w w1 := World.grownBy.trans hg0 hg1
 have hs1 : w.heap.size + 1 + 1 ≤ w1.heap.size := by have := hg1.size; omega
 clear hl0 hz0 hg0 hg1 h0 hsz0
 go_wp2_with fail
 go_loopw [] (fun wr => ∃ f j A B C D : Nat, Rd b s j wr ∧ j ≤ s.size ∧ s.size + 1 ≤ f + j ∧ X3.itemsL (LL s) f j (.bytes A B C D) = R0 ∧ (A < 2 ^ 64 ∧ B < 2 ^ 64 ∧ C < 2 ^ 64 ∧ D < 2 ^ 64) ∧
   wr.heap[w.heap.size + 1]? = some (.cells #[U A, U B, U C, U D] 43 (0, 0)) ∧ wr.heap[w.heap.size]? = some (.cells zero6 46 (0, 0)) ∧ Gr b w wr ∧ w.heap.size + 1 + 1 ≤ wr.heap.size) (fun wr => s.size + 1 - posOf b wr)
 case atStart => exact ⟨s.size + 1, i1, 0, 0, 0, 0, hr1, hle, by omega, HR0.out, ⟨by decide, by decide, by decide, by decide⟩, hl1, hz1, hG1, hs1⟩
 case round =>
  obtain ⟨f, j, A, B, C, D, hr, hj, hf, hR, ⟨hA, hB, hC, hD⟩, hl, hz, hG, hsz⟩ := hrel
  obtain ⟨f, rfl⟩ : ∃ f', f = f' + 1 := ⟨f - 1, by omega⟩
  rw [itemsL_round] at hR
  have k93 := kp.out wr j 93 hr hj
  cases hp : X3.passed (LL s) j 93 with
  | true =>
   rw [hp] at hR k93
   rw [if_pos rfl] at hR
   have hl3 := passed_le hp
   have K := hid k93
   clear k93
   go_wp2_with fail
   refine K.out.mono ?_
   rintro e w2 ⟨rfl, hr2, hg2⟩
   replace hr2 : Rd b s (j + 1) w2 := hr2
   have hQ := HFK.out A B C D (j + 1) hR.symm
   have hl2 := (hg2.block (w.heap.size + 1) (by omega) (fun e => hne1 (Option.some.inj e))).trans hl
   have hz2 := (hg2.block w.heap.size (by omega) (fun e => hne0 (Option.some.inj e))).trans hz
   have hG2 : Gr b w w2 := World.grownBy.trans hG hg2
   have hsz2 : w.heap.size + 1 + 1 ≤ w2.heap.size := by have := hg2.size; omega
   have hbn : b ≠ w.heap.size := by omega
   cases p94 with
   | false =>
    replace hQ : RR = .ok (.bytes A B C D) (j + 1) := hQ
    have hrd : w2.heap[b]? = some (.cells #[.string s, .int .i64 ((j + 1 : Nat) : Int)] 96 (0, 0)) := hr2
    have q0 : w2.cell? ⟨w.heap.size + 1, 0, none⟩ = some (U A) := by rw [Lib.cell_of_heap hl2]; rfl
    have q1 : w2.cell? ⟨w.heap.size + 1, 1, none⟩ = some (U B) := by rw [Lib.cell_of_heap hl2]; rfl
    have q2 : w2.cell? ⟨w.heap.size + 1, 2, none⟩ = some (U C) := by rw [Lib.cell_of_heap hl2]; rfl
    have q3 : w2.cell? ⟨w.heap.size + 1, 3, none⟩ = some (U D) := by rw [Lib.cell_of_heap hl2]; rfl
    have kb := hid fun w => bytesOf_any ((A : Nat) : Int) ((B : Nat) : Int) ((C : Nat) : Int) ((D : Nat) : Int) w
    go_wp2_with fail
    refine (kb.out _).mono ?_
    rintro e w9 ⟨rfl, hb9⟩
    have hz9 := (hb9.block w.heap.size (by omega)).trans hz2
    have hG9 : Gr b w w9 := World.grownBy.trans hG2 (gr_below hb9)
    have hr9 := hid ((hb9.block b (by omega)).trans hrd)
    unfold zero6 at hz9
    have g0 : w9.frozen? ⟨w.heap.size, 0, none⟩ = false := Lib.frozen_of_heap hz9 0
    have g1 : w9.frozen? ⟨w.heap.size, 1, none⟩ = false := Lib.frozen_of_heap hz9 1
    have g2 : w9.frozen? ⟨w.heap.size, 2, none⟩ = false := Lib.frozen_of_heap hz9 2
    have g3 : w9.frozen? ⟨w.heap.size, 3, none⟩ = false := Lib.frozen_of_heap hz9 3
    have g4 : w9.frozen? ⟨w.heap.size, 4, none⟩ = false := Lib.frozen_of_heap hz9 4
    have g5 : w9.frozen? ⟨w.heap.size, 5, none⟩ = false := Lib.frozen_of_heap hz9 5
    have x0 : w9.cell? ⟨w.heap.size, 0, none⟩ = some (.int .i64 0) := by rw [Lib.cell_of_heap hz9]; rfl
    have x1 : w9.cell? ⟨w.heap.size, 1, none⟩ = some (.int .u64 0) := by rw [Lib.cell_of_heap hz9]; rfl
    have x2 : w9.cell? ⟨w.heap.size, 2, none⟩ = some (.int .u64 0) := by rw [Lib.cell_of_heap hz9]; rfl
    have x3 : w9.cell? ⟨w.heap.size, 3, none⟩ = some (.int .u64 0) := by rw [Lib.cell_of_heap hz9]; rfl
    have x4 : w9.cell? ⟨w.heap.size, 4, none⟩ = some (.int .u64 0) := by rw [Lib.cell_of_heap hz9]; rfl
    have x5 : w9.cell? ⟨w.heap.size, 5, none⟩ = some noKids := by rw [Lib.cell_of_heap hz9]; rfl
    go_wp2_with fail
    have z0 := heap_setCell_same w9 w.heap.size 0 _ 46 (.int .i64 1) hz9
    have z1 := heap_setCell_same _ w.heap.size 1 _ 46 (U A) z0
    have z2 := heap_setCell_same _ w.heap.size 2 _ 46 (U B) z1
    have z3 := heap_setCell_same _ w.heap.size 3 _ 46 (U C) z2
    have z4 := heap_setCell_same _ w.heap.size 4 _ 46 (U D) z3
    have z5 := heap_setCell_same _ w.heap.size 5 _ 46 noKids z4
    have hG8 : Gr b w ((((((w9.setCell ⟨w.heap.size, 0, none⟩ (.int .i64 1)).setCell ⟨w.heap.size, 1, none⟩ (U A)).setCell ⟨w.heap.size, 2, none⟩ (U B)).setCell ⟨w.heap.size, 3, none⟩ (U C)).setCell ⟨w.heap.size, 4, none⟩ (U D)).setCell ⟨w.heap.size, 5, none⟩ noKids) := gr_new (gr_new (gr_new (gr_new (gr_new (gr_new hG9 (Nat.le_refl _) 0 _) (Nat.le_refl _) 1 _) (Nat.le_refl _) 2 _) (Nat.le_refl _) 3 _) (Nat.le_refl _) 4 _) (Nat.le_refl _) 5 _
    have hr8 : Rd b s (j + 1) ((((((w9.setCell ⟨w.heap.size, 0, none⟩ (.int .i64 1)).setCell ⟨w.heap.size, 1, none⟩ (U A)).setCell ⟨w.heap.size, 2, none⟩ (U B)).setCell ⟨w.heap.size, 3, none⟩ (U C)).setCell ⟨w.heap.size, 4, none⟩ (U D)).setCell ⟨w.heap.size, 5, none⟩ noKids) := (Below.heap_setCell _ _ _ _ hbn).trans ((Below.heap_setCell _ _ _ _ hbn).trans ((Below.heap_setCell _ _ _ _ hbn).trans ((Below.heap_setCell _ _ _ _ hbn).trans ((Below.heap_setCell _ _ _ _ hbn).trans ((Below.heap_setCell _ _ _ _ hbn).trans (hr9.out))))))
    generalize ((((((w9.setCell ⟨w.heap.size, 0, none⟩ (.int .i64 1)).setCell ⟨w.heap.size, 1, none⟩ (U A)).setCell ⟨w.heap.size, 2, none⟩ (U B)).setCell ⟨w.heap.size, 3, none⟩ (U C)).setCell ⟨w.heap.size, 4, none⟩ (U D)).setCell ⟨w.heap.size, 5, none⟩ noKids) = w8 at *
    have y0 : w8.cell? ⟨w.heap.size, 0, none⟩ = some (.int .i64 1) := by rw [Lib.cell_of_heap z5]; rfl
    have y1 : w8.cell? ⟨w.heap.size, 1, none⟩ = some (U A) := by rw [Lib.cell_of_heap z5]; rfl
    have y2 : w8.cell? ⟨w.heap.size, 2, none⟩ = some (U B) := by rw [Lib.cell_of_heap z5]; rfl
    have y3 : w8.cell? ⟨w.heap.size, 3, none⟩ = some (U C) := by rw [Lib.cell_of_heap z5]; rfl
    have y4 : w8.cell? ⟨w.heap.size, 4, none⟩ = some (U D) := by rw [Lib.cell_of_heap z5]; rfl
    have y5 : w8.cell? ⟨w.heap.size, 5, none⟩ = some noKids := by rw [Lib.cell_of_heap z5]; rfl
    refine bodyPost_ret (v := nodeV 1 (A : Nat) (B : Nat) (C : Nat) (D : Nat) noKids) (by simp [results, Tryz.results137, go_sem, y0, y1, y2, y3, y4, y5]) rfl ?_
    rw [hQ]
    exact ⟨_, rfl, .bytes _ _ _ _ hA hB hC hD, hr8, hG8, hl3⟩
   | true =>
    replace hQ : RR = .ok (.bytes (X3.full ^^^ A) (X3.full ^^^ B) (X3.full ^^^ C) (X3.full ^^^ D)) (j + 1) := hQ
    have q0 : w2.cell? ⟨w.heap.size + 1, 0, none⟩ = some (U A) := by rw [Lib.cell_of_heap hl2]; rfl
    have q1 : w2.cell? ⟨w.heap.size + 1, 1, none⟩ = some (U B) := by rw [Lib.cell_of_heap hl2]; rfl
    have q2 : w2.cell? ⟨w.heap.size + 1, 2, none⟩ = some (U C) := by rw [Lib.cell_of_heap hl2]; rfl
    have q3 : w2.cell? ⟨w.heap.size + 1, 3, none⟩ = some (U D) := by rw [Lib.cell_of_heap hl2]; rfl
    have ke := hid fun w => except_any A B C D w hA hB hC hD
    go_wp2_with fail
    refine (ke.out _).mono ?_
    rintro e w3 ⟨rfl, hb3⟩
    have hl4 := (hb3.block (w.heap.size + 1) (by omega)).trans hl2
    have hz4 := (hb3.block w.heap.size (by omega)).trans hz2
    have hG3 : Gr b w w3 := World.grownBy.trans hG2 (gr_below hb3)
    have hr3 := hid ((hb3.block b (by omega)).trans hr2)
    have g0 : w3.frozen? ⟨w.heap.size + 1, 0, none⟩ = false := Lib.frozen_of_heap hl4 0
    have x0 : w3.cell? ⟨w.heap.size + 1, 0, none⟩ = some (U A) := by rw [Lib.cell_of_heap hl4]; rfl
    have g1 : w3.frozen? ⟨w.heap.size + 1, 1, none⟩ = false := Lib.frozen_of_heap hl4 1
    have x1 : w3.cell? ⟨w.heap.size + 1, 1, none⟩ = some (U B) := by rw [Lib.cell_of_heap hl4]; rfl
    have g2 : w3.frozen? ⟨w.heap.size + 1, 2, none⟩ = false := Lib.frozen_of_heap hl4 2
    have x2 : w3.cell? ⟨w.heap.size + 1, 2, none⟩ = some (U C) := by rw [Lib.cell_of_heap hl4]; rfl
    have g3 : w3.frozen? ⟨w.heap.size + 1, 3, none⟩ = false := Lib.frozen_of_heap hl4 3
    have x3 : w3.cell? ⟨w.heap.size + 1, 3, none⟩ = some (U D) := by rw [Lib.cell_of_heap hl4]; rfl
    go_upto_region 17 with fail
    have z0 := heap_setCell_same w3 (w.heap.size + 1) 0 _ 43 (U (X3.full ^^^ A)) hl4
    have z1 := heap_setCell_same _ (w.heap.size + 1) 1 _ 43 (U (X3.full ^^^ B)) z0
    have z2 := heap_setCell_same _ (w.heap.size + 1) 2 _ 43 (U (X3.full ^^^ C)) z1
    have z3 := heap_setCell_same _ (w.heap.size + 1) 3 _ 43 (U (X3.full ^^^ D)) z2
    have hG4 : Gr b w ((((w3.setCell ⟨w.heap.size + 1, 0, none⟩ (U (X3.full ^^^ A))).setCell ⟨w.heap.size + 1, 1, none⟩ (U (X3.full ^^^ B))).setCell ⟨w.heap.size + 1, 2, none⟩ (U (X3.full ^^^ C))).setCell ⟨w.heap.size + 1, 3, none⟩ (U (X3.full ^^^ D))) := gr_new (gr_new (gr_new (gr_new hG3 (Nat.le_succ _) 0 _) (Nat.le_succ _) 1 _) (Nat.le_succ _) 2 _) (Nat.le_succ _) 3 _
    have hz5 : (((((w3.setCell ⟨w.heap.size + 1, 0, none⟩ (U (X3.full ^^^ A))).setCell ⟨w.heap.size + 1, 1, none⟩ (U (X3.full ^^^ B))).setCell ⟨w.heap.size + 1, 2, none⟩ (U (X3.full ^^^ C))).setCell ⟨w.heap.size + 1, 3, none⟩ (U (X3.full ^^^ D)))).heap[w.heap.size]? = some (.cells zero6 46 (0, 0)) := (Below.heap_setCell _ _ _ _ (by simp; try omega)).trans ((Below.heap_setCell _ _ _ _ (by simp; try omega)).trans ((Below.heap_setCell _ _ _ _ (by simp; try omega)).trans ((Below.heap_setCell _ _ _ _ (by simp; try omega)).trans (hz4))))
    have hrd : (((((w3.setCell ⟨w.heap.size + 1, 0, none⟩ (U (X3.full ^^^ A))).setCell ⟨w.heap.size + 1, 1, none⟩ (U (X3.full ^^^ B))).setCell ⟨w.heap.size + 1, 2, none⟩ (U (X3.full ^^^ C))).setCell ⟨w.heap.size + 1, 3, none⟩ (U (X3.full ^^^ D)))).heap[b]? = some (.cells #[.string s, .int .i64 ((j + 1 : Nat) : Int)] 96 (0, 0)) := (Below.heap_setCell _ _ _ _ (by simp; try omega)).trans ((Below.heap_setCell _ _ _ _ (by simp; try omega)).trans ((Below.heap_setCell _ _ _ _ (by simp; try omega)).trans ((Below.heap_setCell _ _ _ _ (by simp; try omega)).trans (hr3.out))))
    have hs4 : w.heap.size + 1 + 1 ≤ (((((w3.setCell ⟨w.heap.size + 1, 0, none⟩ (U (X3.full ^^^ A))).setCell ⟨w.heap.size + 1, 1, none⟩ (U (X3.full ^^^ B))).setCell ⟨w.heap.size + 1, 2, none⟩ (U (X3.full ^^^ C))).setCell ⟨w.heap.size + 1, 3, none⟩ (U (X3.full ^^^ D)))).heap.size := by have := hb3.size; simp; omega
    generalize ((((w3.setCell ⟨w.heap.size + 1, 0, none⟩ (U (X3.full ^^^ A))).setCell ⟨w.heap.size + 1, 1, none⟩ (U (X3.full ^^^ B))).setCell ⟨w.heap.size + 1, 2, none⟩ (U (X3.full ^^^ C))).setCell ⟨w.heap.size + 1, 3, none⟩ (U (X3.full ^^^ D))) = w4 at *
    have q0 : w4.cell? ⟨w.heap.size + 1, 0, none⟩ = some (U (X3.full ^^^ A)) := by rw [Lib.cell_of_heap z3]; rfl
    have q1 : w4.cell? ⟨w.heap.size + 1, 1, none⟩ = some (U (X3.full ^^^ B)) := by rw [Lib.cell_of_heap z3]; rfl
    have q2 : w4.cell? ⟨w.heap.size + 1, 2, none⟩ = some (U (X3.full ^^^ C)) := by rw [Lib.cell_of_heap z3]; rfl
    have q3 : w4.cell? ⟨w.heap.size + 1, 3, none⟩ = some (U (X3.full ^^^ D)) := by rw [Lib.cell_of_heap z3]; rfl
    have kb := hid fun w => bytesOf_any (((X3.full ^^^ A) : Nat) : Int) (((X3.full ^^^ B) : Nat) : Int) (((X3.full ^^^ C) : Nat) : Int) (((X3.full ^^^ D) : Nat) : Int) w
    go_wp2_with fail
    refine (kb.out _).mono ?_
    rintro e w9 ⟨rfl, hb9⟩
    have hz9 := (hb9.block w.heap.size (by omega)).trans hz5
    have hG9 : Gr b w w9 := World.grownBy.trans hG4 (gr_below hb9)
    have hr9 := hid ((hb9.block b (by omega)).trans hrd)
    unfold zero6 at hz9
    have g0 : w9.frozen? ⟨w.heap.size, 0, none⟩ = false := Lib.frozen_of_heap hz9 0
    have g1 : w9.frozen? ⟨w.heap.size, 1, none⟩ = false := Lib.frozen_of_heap hz9 1
    have g2 : w9.frozen? ⟨w.heap.size, 2, none⟩ = false := Lib.frozen_of_heap hz9 2
    have g3 : w9.frozen? ⟨w.heap.size, 3, none⟩ = false := Lib.frozen_of_heap hz9 3
    have g4 : w9.frozen? ⟨w.heap.size, 4, none⟩ = false := Lib.frozen_of_heap hz9 4
    have g5 : w9.frozen? ⟨w.heap.size, 5, none⟩ = false := Lib.frozen_of_heap hz9 5
    have x0 : w9.cell? ⟨w.heap.size, 0, none⟩ = some (.int .i64 0) := by rw [Lib.cell_of_heap hz9]; rfl
    have x1 : w9.cell? ⟨w.heap.size, 1, none⟩ = some (.int .u64 0) := by rw [Lib.cell_of_heap hz9]; rfl
    have x2 : w9.cell? ⟨w.heap.size, 2, none⟩ = some (.int .u64 0) := by rw [Lib.cell_of_heap hz9]; rfl
    have x3 : w9.cell? ⟨w.heap.size, 3, none⟩ = some (.int .u64 0) := by rw [Lib.cell_of_heap hz9]; rfl
    have x4 : w9.cell? ⟨w.heap.size, 4, none⟩ = some (.int .u64 0) := by rw [Lib.cell_of_heap hz9]; rfl
    have x5 : w9.cell? ⟨w.heap.size, 5, none⟩ = some noKids := by rw [Lib.cell_of_heap hz9]; rfl
    go_wp2_with fail
    have z0 := heap_setCell_same w9 w.heap.size 0 _ 46 (.int .i64 1) hz9
    have z1 := heap_setCell_same _ w.heap.size 1 _ 46 (U (X3.full ^^^ A)) z0
    have z2 := heap_setCell_same _ w.heap.size 2 _ 46 (U (X3.full ^^^ B)) z1
    have z3 := heap_setCell_same _ w.heap.size 3 _ 46 (U (X3.full ^^^ C)) z2
    have z4 := heap_setCell_same _ w.heap.size 4 _ 46 (U (X3.full ^^^ D)) z3
    have z5 := heap_setCell_same _ w.heap.size 5 _ 46 noKids z4
    have hG8 : Gr b w ((((((w9.setCell ⟨w.heap.size, 0, none⟩ (.int .i64 1)).setCell ⟨w.heap.size, 1, none⟩ (U (X3.full ^^^ A))).setCell ⟨w.heap.size, 2, none⟩ (U (X3.full ^^^ B))).setCell ⟨w.heap.size, 3, none⟩ (U (X3.full ^^^ C))).setCell ⟨w.heap.size, 4, none⟩ (U (X3.full ^^^ D))).setCell ⟨w.heap.size, 5, none⟩ noKids) := gr_new (gr_new (gr_new (gr_new (gr_new (gr_new hG9 (Nat.le_refl _) 0 _) (Nat.le_refl _) 1 _) (Nat.le_refl _) 2 _) (Nat.le_refl _) 3 _) (Nat.le_refl _) 4 _) (Nat.le_refl _) 5 _
    have hr8 : Rd b s (j + 1) ((((((w9.setCell ⟨w.heap.size, 0, none⟩ (.int .i64 1)).setCell ⟨w.heap.size, 1, none⟩ (U (X3.full ^^^ A))).setCell ⟨w.heap.size, 2, none⟩ (U (X3.full ^^^ B))).setCell ⟨w.heap.size, 3, none⟩ (U (X3.full ^^^ C))).setCell ⟨w.heap.size, 4, none⟩ (U (X3.full ^^^ D))).setCell ⟨w.heap.size, 5, none⟩ noKids) := (Below.heap_setCell _ _ _ _ hbn).trans ((Below.heap_setCell _ _ _ _ hbn).trans ((Below.heap_setCell _ _ _ _ hbn).trans ((Below.heap_setCell _ _ _ _ hbn).trans ((Below.heap_setCell _ _ _ _ hbn).trans ((Below.heap_setCell _ _ _ _ hbn).trans (hr9.out))))))
    generalize ((((((w9.setCell ⟨w.heap.size, 0, none⟩ (.int .i64 1)).setCell ⟨w.heap.size, 1, none⟩ (U (X3.full ^^^ A))).setCell ⟨w.heap.size, 2, none⟩ (U (X3.full ^^^ B))).setCell ⟨w.heap.size, 3, none⟩ (U (X3.full ^^^ C))).setCell ⟨w.heap.size, 4, none⟩ (U (X3.full ^^^ D))).setCell ⟨w.heap.size, 5, none⟩ noKids) = w8 at *
    have y0 : w8.cell? ⟨w.heap.size, 0, none⟩ = some (.int .i64 1) := by rw [Lib.cell_of_heap z5]; rfl
    have y1 : w8.cell? ⟨w.heap.size, 1, none⟩ = some (U (X3.full ^^^ A)) := by rw [Lib.cell_of_heap z5]; rfl
    have y2 : w8.cell? ⟨w.heap.size, 2, none⟩ = some (U (X3.full ^^^ B)) := by rw [Lib.cell_of_heap z5]; rfl
    have y3 : w8.cell? ⟨w.heap.size, 3, none⟩ = some (U (X3.full ^^^ C)) := by rw [Lib.cell_of_heap z5]; rfl
    have y4 : w8.cell? ⟨w.heap.size, 4, none⟩ = some (U (X3.full ^^^ D)) := by rw [Lib.cell_of_heap z5]; rfl
    have y5 : w8.cell? ⟨w.heap.size, 5, none⟩ = some noKids := by rw [Lib.cell_of_heap z5]; rfl
    refine bodyPost_ret (v := nodeV 1 ((X3.full ^^^ A) : Nat) ((X3.full ^^^ B) : Nat) ((X3.full ^^^ C) : Nat) ((X3.full ^^^ D) : Nat) noKids) (by simp [results, Tryz.results137, go_sem, y0, y1, y2, y3, y4, y5]) rfl ?_
    rw [hQ]
    exact ⟨_, rfl, .bytes _ _ _ _ (xor_lt hA) (xor_lt hB) (xor_lt hC) (xor_lt hD), hr8, hG8, hl3⟩
  | false =>
   rw [hp] at hR k93
   rw [if_neg (by decide)] at hR
   have K := hid k93
   clear k93
   go_wp2_with fail
   refine K.out.mono ?_
   rintro e w2 ⟨rfl, hr2, hg2⟩
   rw [if_neg (by decide)] at hr2
   have hP := posOf_rd hr
   cases hD1 : X3.itemByte (LL s) j with
   | err c =>
    have e1 : X3.itemX (LL s) j = .err c := by unfold X3.itemX; rw [hD1]; rfl
    rw [e1] at hR
    have hQ := hfe2 c hR.symm
    go_wp2_with fail
    refine (ki.out _ j hr2 hj).mono ?_
    intro e w3 h3
    rw [hD1] at h3
    obtain ⟨rfl, hg3⟩ := h3
    refine ⟨rfl, ?_⟩
    show RP b s w RR _ _
    rw [hQ]
    exact ⟨rfl, World.grownBy.trans hG (World.grownBy.trans hg2 hg3)⟩
   | ok lo k =>
    obtain ⟨g1, g2, g3⟩ := X3.itemByte_at hD1
    replace g2 : _ ≤ s.size := g2
    have HP := hid hP
    clear hP
    cases hq : X3.passed (LL s) k 45 with
    | false =>
     have e1 : X3.itemX (LL s) j = .ok (X3.spanX lo lo) k := by
      unfold X3.itemX; rw [hD1]; show (if X3.passed (LL s) k 45 then _ else _) = _; rw [hq]; rfl
     rw [e1] at hR
     have HRN : Hid (X3.itemsL (LL s) f k (.bytes (A ||| X3.bitsOf lo lo 0) (B ||| X3.bitsOf lo lo 1) (C ||| X3.bitsOf lo lo 2) (D ||| X3.bitsOf lo lo 3)) = R0) := hid hR
     clear e1 hR
     go_wp2_with fail
     refine (ki.out _ j hr2 hj).mono ?_
     intro e w3 h3
     rw [hD1] at h3
     obtain ⟨rfl, hr3, hg3, hk, hlo⟩ := h3
     have k45 := kp.out w3 k 45 hr3 hk
     rw [hq] at k45
     have K45 := hid k45
     clear k45
     go_wp2_with fail
     refine K45.out.mono ?_
     rintro e w4 ⟨rfl, hr4, hg4⟩
     replace hr4 : Rd b s k w4 := hr4
     have hnl : ¬ ((lo : Int) < (lo : Int)) := by omega
     have ksp := hid fun w => span_any lo lo w g3 g3
     go_wp2_with fail
     refine (ksp.out _).mono ?_
     rintro e w8 ⟨rfl, hb8⟩
     have hgA : Gr b _ w8 := World.grownBy.trans hg2 (World.grownBy.trans hg3 (World.grownBy.trans hg4 (gr_below hb8)))
     have hl8 := (hgA.block (w.heap.size + 1) (by omega) (fun e => hne1 (Option.some.inj e))).trans hl
     have hz8 := (hgA.block w.heap.size (by omega) (fun e => hne0 (Option.some.inj e))).trans hz
     have hr8 : Rd b s k w8 := (hb8.block b (Array.getElem?_eq_some_iff.1 hr4).1).trans hr4
     have hG8 : Gr b w w8 := World.grownBy.trans hG hgA
     have hs8 : w.heap.size + 1 + 1 ≤ w8.heap.size := by have := hgA.size; omega
     clear hgA hb8
     go_wp2_with fail
     go_loopw [29] (fun v wr => ∃ q : Nat, q ≤ 4 ∧ v = .int .i64 (q : Int) ∧ Rd b s k wr ∧ wr.heap[w.heap.size + 1]? = some (.cells (orTo A B C D (X3.bitsOf lo lo 0) (X3.bitsOf lo lo 1) (X3.bitsOf lo lo 2) (X3.bitsOf lo lo 3) q) 43 (0, 0)) ∧ wr.heap[w.heap.size]? = some (.cells zero6 46 (0, 0)) ∧ Gr b w wr ∧ w.heap.size + 1 + 1 ≤ wr.heap.size) (fun v _ => 4 - (RowKit.intOf v).toNat)
     case atStart => exact ⟨0, by omega, rfl, hr8, hl8, hz8, hG8, hs8⟩
     case round =>
      obtain ⟨q, hq4, rfl, hr6, hl6, hz6, hG6, hs6⟩ := hrel
      have hbn : b ≠ w.heap.size + 1 := by omega
      obtain rfl | rfl | rfl | rfl | rfl : q = 0 ∨ q = 1 ∨ q = 2 ∨ q = 3 ∨ q = 4 := by omega
      ·skip
       have c0 : wr.cell? ⟨w.heap.size + 1, 0, none⟩ = some (U A) := by rw [Lib.cell_of_heap hl6]; rfl
       have f0 : wr.frozen? ⟨w.heap.size + 1, 0, none⟩ = false := Lib.frozen_of_heap hl6 0
       have e0 := bits_or_u64_nat A (X3.bitsOf lo lo 0) hA (X3.bits_lt _ _ _)
       have iz : ∀ w, (Instr.index 43 (.agg #[.int .u64 (((X3.bitsOf lo lo 0) : Nat) : Int), .int .u64 (((X3.bitsOf lo lo 1) : Nat) : Int), .int .u64 (((X3.bitsOf lo lo 2) : Nat) : Int), .int .u64 (((X3.bitsOf lo lo 3) : Nat) : Int)]) (.int .i64 0)).run Tryz.prog w = .ok (.int .u64 (((X3.bitsOf lo lo 0) : Nat) : Int)) w := fun _ => by kernel_rfl
       go_wp2_with fail
       have z := heap_setCell_same wr (w.heap.size + 1) 0 _ 43 (U (A ||| (X3.bitsOf lo lo 0))) hl6
       exact ⟨⟨1, by omega, rfl, (Below.heap_setCell _ _ _ _ hbn).trans hr6, z, (Below.heap_setCell _ _ _ _ (by simp)).trans hz6, gr_new hG6 (Nat.le_succ _) _ _, by simpa using hs6⟩, by decide⟩
      ·skip
       have c0 : wr.cell? ⟨w.heap.size + 1, 1, none⟩ = some (U B) := by rw [Lib.cell_of_heap hl6]; rfl
       have f0 : wr.frozen? ⟨w.heap.size + 1, 1, none⟩ = false := Lib.frozen_of_heap hl6 1
       have e0 := bits_or_u64_nat B (X3.bitsOf lo lo 1) hB (X3.bits_lt _ _ _)
       have iz : ∀ w, (Instr.index 43 (.agg #[.int .u64 (((X3.bitsOf lo lo 0) : Nat) : Int), .int .u64 (((X3.bitsOf lo lo 1) : Nat) : Int), .int .u64 (((X3.bitsOf lo lo 2) : Nat) : Int), .int .u64 (((X3.bitsOf lo lo 3) : Nat) : Int)]) (.int .i64 1)).run Tryz.prog w = .ok (.int .u64 (((X3.bitsOf lo lo 1) : Nat) : Int)) w := fun _ => by kernel_rfl
       go_wp2_with fail
       have z := heap_setCell_same wr (w.heap.size + 1) 1 _ 43 (U (B ||| (X3.bitsOf lo lo 1))) hl6
       exact ⟨⟨2, by omega, rfl, (Below.heap_setCell _ _ _ _ hbn).trans hr6, z, (Below.heap_setCell _ _ _ _ (by simp)).trans hz6, gr_new hG6 (Nat.le_succ _) _ _, by simpa using hs6⟩, by decide⟩
      ·skip
       have c0 : wr.cell? ⟨w.heap.size + 1, 2, none⟩ = some (U C) := by rw [Lib.cell_of_heap hl6]; rfl
       have f0 : wr.frozen? ⟨w.heap.size + 1, 2, none⟩ = false := Lib.frozen_of_heap hl6 2
       have e0 := bits_or_u64_nat C (X3.bitsOf lo lo 2) hC (X3.bits_lt _ _ _)
       have iz : ∀ w, (Instr.index 43 (.agg #[.int .u64 (((X3.bitsOf lo lo 0) : Nat) : Int), .int .u64 (((X3.bitsOf lo lo 1) : Nat) : Int), .int .u64 (((X3.bitsOf lo lo 2) : Nat) : Int), .int .u64 (((X3.bitsOf lo lo 3) : Nat) : Int)]) (.int .i64 2)).run Tryz.prog w = .ok (.int .u64 (((X3.bitsOf lo lo 2) : Nat) : Int)) w := fun _ => by kernel_rfl
       go_wp2_with fail
       have z := heap_setCell_same wr (w.heap.size + 1) 2 _ 43 (U (C ||| (X3.bitsOf lo lo 2))) hl6
       exact ⟨⟨3, by omega, rfl, (Below.heap_setCell _ _ _ _ hbn).trans hr6, z, (Below.heap_setCell _ _ _ _ (by simp)).trans hz6, gr_new hG6 (Nat.le_succ _) _ _, by simpa using hs6⟩, by decide⟩
      ·skip
       have c0 : wr.cell? ⟨w.heap.size + 1, 3, none⟩ = some (U D) := by rw [Lib.cell_of_heap hl6]; rfl
       have f0 : wr.frozen? ⟨w.heap.size + 1, 3, none⟩ = false := Lib.frozen_of_heap hl6 3
       have e0 := bits_or_u64_nat D (X3.bitsOf lo lo 3) hD (X3.bits_lt _ _ _)
       have iz : ∀ w, (Instr.index 43 (.agg #[.int .u64 (((X3.bitsOf lo lo 0) : Nat) : Int), .int .u64 (((X3.bitsOf lo lo 1) : Nat) : Int), .int .u64 (((X3.bitsOf lo lo 2) : Nat) : Int), .int .u64 (((X3.bitsOf lo lo 3) : Nat) : Int)]) (.int .i64 3)).run Tryz.prog w = .ok (.int .u64 (((X3.bitsOf lo lo 3) : Nat) : Int)) w := fun _ => by kernel_rfl
       go_wp2_with fail
       have z := heap_setCell_same wr (w.heap.size + 1) 3 _ 43 (U (D ||| (X3.bitsOf lo lo 3))) hl6
       exact ⟨⟨4, by omega, rfl, (Below.heap_setCell _ _ _ _ hbn).trans hr6, z, (Below.heap_setCell _ _ _ _ (by simp)).trans hz6, gr_new hG6 (Nat.le_succ _) _ _, by simpa using hs6⟩, by decide⟩
      ·skip
       go_wp2_with fail
       have hR6 := HRN.out
       refine ⟨⟨f, k, _, _, _, _, hr6, g2, by omega, hR6, ⟨Nat.or_lt_two_pow hA (X3.bits_lt _ _ _), Nat.or_lt_two_pow hB (X3.bits_lt _ _ _), Nat.or_lt_two_pow hC (X3.bits_lt _ _ _), Nat.or_lt_two_pow hD (X3.bits_lt _ _ _)⟩, hl6, hz6, hG6, hs6⟩, ?_⟩
       rw [posOf_rd hr6, HP.out]
       omega
    | true =>
     have hk1 := passed_le hq
     have e0 : X3.itemX (LL s) j = (X3.itemByte (LL s) (k + 1)).bind fun hi m => if hi < lo then .err 5 else .ok (X3.spanX lo hi) m := by
      unfold X3.itemX; rw [hD1]; show (if X3.passed (LL s) k 45 then _ else _) = _; rw [hq]; rfl
     rw [e0] at hR
     cases hE : X3.itemByte (LL s) (k + 1) with
     | err c =>
      rw [hE] at hR
      have hQ := hfe2 c hR.symm
      go_wp2_with fail
      refine (ki.out _ j hr2 hj).mono ?_
      intro e w3 h3
      rw [hD1] at h3
      obtain ⟨rfl, hr3, hg3, hk, hlo⟩ := h3
      have k45 := kp.out w3 k 45 hr3 hk
      rw [hq] at k45
      have K45 := hid k45
      clear k45
      go_wp2_with fail
      refine K45.out.mono ?_
      rintro e w4 ⟨rfl, hr4, hg4⟩
      replace hr4 : Rd b s (k + 1) w4 := hr4
      go_wp2_with fail
      refine (ki.out _ (k + 1) hr4 hk1).mono ?_
      intro e w5 h5
      rw [hE] at h5
      obtain ⟨rfl, hg5⟩ := h5
      refine ⟨rfl, ?_⟩
      show RP b s w RR _ _
      rw [hQ]
      exact ⟨rfl, World.grownBy.trans hG (World.grownBy.trans hg2 (World.grownBy.trans hg3 (World.grownBy.trans hg4 hg5)))⟩
     | ok hi m =>
      rw [hE] at hR
      obtain ⟨m1, m2, m3⟩ := X3.itemByte_at hE
      replace m2 : _ ≤ s.size := m2
      by_cases hlt : hi < lo
      ·have hR2 : X3.PR.err 5 = R0 := by rw [← hR]; show _ = X3.PR.bind (if hi < lo then _ else _) _; rw [if_pos hlt]; rfl
       have hQ := hfe2 5 hR2.symm
       have hnl : ((hi : Int) < (lo : Int)) := by omega
       clear hR hR2
       go_wp2_with fail
       refine (ki.out _ j hr2 hj).mono ?_
       intro e w3 h3
       rw [hD1] at h3
       obtain ⟨rfl, hr3, hg3, hk, hlo⟩ := h3
       have k45 := kp.out w3 k 45 hr3 hk
       rw [hq] at k45
       have K45 := hid k45
       clear k45
       go_wp2_with fail
       refine K45.out.mono ?_
       rintro e w4 ⟨rfl, hr4, hg4⟩
       replace hr4 : Rd b s (k + 1) w4 := hr4
       go_wp2_with fail
       refine (ki.out _ (k + 1) hr4 hk1).mono ?_
       intro e w5 h5
       rw [hE] at h5
       obtain ⟨rfl, hr5, hg5, hm5, hhi⟩ := h5
       go_wp2_with fail
       refine (kf.out _).mono ?_
       rintro e w6 ⟨rfl, rfl⟩
       refine ⟨rfl, ?_⟩
       show RP b s w RR _ _
       rw [hQ]
       exact ⟨rfl, World.grownBy.trans hG (World.grownBy.trans hg2 (World.grownBy.trans hg3 (World.grownBy.trans hg4 hg5)))⟩
      ·have hR2 : X3.itemsL (LL s) f m (.bytes (A ||| X3.bitsOf lo hi 0) (B ||| X3.bitsOf lo hi 1) (C ||| X3.bitsOf lo hi 2) (D ||| X3.bitsOf lo hi 3)) = R0 := by rw [← hR]; show _ = X3.PR.bind (if hi < lo then _ else _) _; rw [if_neg hlt]; rfl
       have HRN := hid hR2
       have hnl : ¬ ((hi : Int) < (lo : Int)) := by omega
       clear hR hR2
       go_wp2_with fail
       refine (ki.out _ j hr2 hj).mono ?_
       intro e w3 h3
       rw [hD1] at h3
       obtain ⟨rfl, hr3, hg3, hk, hlo⟩ := h3
       have k45 := kp.out w3 k 45 hr3 hk
       rw [hq] at k45
       have K45 := hid k45
       clear k45
       go_wp2_with fail
       refine K45.out.mono ?_
       rintro e w4 ⟨rfl, hr4, hg4⟩
       replace hr4 : Rd b s (k + 1) w4 := hr4
       go_wp2_with fail
       refine (ki.out _ (k + 1) hr4 hk1).mono ?_
       intro e w5 h5
       rw [hE] at h5
       obtain ⟨rfl, hr5, hg5, hm5, hhi⟩ := h5
       have ksp := hid fun w => span_any lo hi w g3 m3
       go_wp2_with fail
       refine (ksp.out _).mono ?_
       rintro e w8 ⟨rfl, hb8⟩
       have hgA : Gr b _ w8 := World.grownBy.trans hg2 (World.grownBy.trans hg3 (World.grownBy.trans hg4 (World.grownBy.trans hg5 (gr_below hb8))))
       have hl8 := (hgA.block (w.heap.size + 1) (by omega) (fun e => hne1 (Option.some.inj e))).trans hl
       have hz8 := (hgA.block w.heap.size (by omega) (fun e => hne0 (Option.some.inj e))).trans hz
       have hr8 : Rd b s m w8 := (hb8.block b (Array.getElem?_eq_some_iff.1 hr5).1).trans hr5
       have hG8 : Gr b w w8 := World.grownBy.trans hG hgA
       have hs8 : w.heap.size + 1 + 1 ≤ w8.heap.size := by have := hgA.size; omega
       clear hgA hb8
       go_wp2_with fail
       go_loopw [29] (fun v wr => ∃ q : Nat, q ≤ 4 ∧ v = .int .i64 (q : Int) ∧ Rd b s m wr ∧ wr.heap[w.heap.size + 1]? = some (.cells (orTo A B C D (X3.bitsOf lo hi 0) (X3.bitsOf lo hi 1) (X3.bitsOf lo hi 2) (X3.bitsOf lo hi 3) q) 43 (0, 0)) ∧ wr.heap[w.heap.size]? = some (.cells zero6 46 (0, 0)) ∧ Gr b w wr ∧ w.heap.size + 1 + 1 ≤ wr.heap.size) (fun v _ => 4 - (RowKit.intOf v).toNat)
       case atStart => exact ⟨0, by omega, rfl, hr8, hl8, hz8, hG8, hs8⟩
       case round =>
        obtain ⟨q, hq4, rfl, hr6, hl6, hz6, hG6, hs6⟩ := hrel
        have hbn : b ≠ w.heap.size + 1 := by omega
        obtain rfl | rfl | rfl | rfl | rfl : q = 0 ∨ q = 1 ∨ q = 2 ∨ q = 3 ∨ q = 4 := by omega
        ·skip
         have c0 : wr.cell? ⟨w.heap.size + 1, 0, none⟩ = some (U A) := by rw [Lib.cell_of_heap hl6]; rfl
         have f0 : wr.frozen? ⟨w.heap.size + 1, 0, none⟩ = false := Lib.frozen_of_heap hl6 0
         have e0 := bits_or_u64_nat A (X3.bitsOf lo hi 0) hA (X3.bits_lt _ _ _)
         have iz : ∀ w, (Instr.index 43 (.agg #[.int .u64 (((X3.bitsOf lo hi 0) : Nat) : Int), .int .u64 (((X3.bitsOf lo hi 1) : Nat) : Int), .int .u64 (((X3.bitsOf lo hi 2) : Nat) : Int), .int .u64 (((X3.bitsOf lo hi 3) : Nat) : Int)]) (.int .i64 0)).run Tryz.prog w = .ok (.int .u64 (((X3.bitsOf lo hi 0) : Nat) : Int)) w := fun _ => by kernel_rfl
         go_wp2_with fail
         have z := heap_setCell_same wr (w.heap.size + 1) 0 _ 43 (U (A ||| (X3.bitsOf lo hi 0))) hl6
         exact ⟨⟨1, by omega, rfl, (Below.heap_setCell _ _ _ _ hbn).trans hr6, z, (Below.heap_setCell _ _ _ _ (by simp)).trans hz6, gr_new hG6 (Nat.le_succ _) _ _, by simpa using hs6⟩, by decide⟩
        ·skip
         have c0 : wr.cell? ⟨w.heap.size + 1, 1, none⟩ = some (U B) := by rw [Lib.cell_of_heap hl6]; rfl
         have f0 : wr.frozen? ⟨w.heap.size + 1, 1, none⟩ = false := Lib.frozen_of_heap hl6 1
         have e0 := bits_or_u64_nat B (X3.bitsOf lo hi 1) hB (X3.bits_lt _ _ _)
         have iz : ∀ w, (Instr.index 43 (.agg #[.int .u64 (((X3.bitsOf lo hi 0) : Nat) : Int), .int .u64 (((X3.bitsOf lo hi 1) : Nat) : Int), .int .u64 (((X3.bitsOf lo hi 2) : Nat) : Int), .int .u64 (((X3.bitsOf lo hi 3) : Nat) : Int)]) (.int .i64 1)).run Tryz.prog w = .ok (.int .u64 (((X3.bitsOf lo hi 1) : Nat) : Int)) w := fun _ => by kernel_rfl
         go_wp2_with fail
         have z := heap_setCell_same wr (w.heap.size + 1) 1 _ 43 (U (B ||| (X3.bitsOf lo hi 1))) hl6
         exact ⟨⟨2, by omega, rfl, (Below.heap_setCell _ _ _ _ hbn).trans hr6, z, (Below.heap_setCell _ _ _ _ (by simp)).trans hz6, gr_new hG6 (Nat.le_succ _) _ _, by simpa using hs6⟩, by decide⟩
        ·skip
         have c0 : wr.cell? ⟨w.heap.size + 1, 2, none⟩ = some (U C) := by rw [Lib.cell_of_heap hl6]; rfl
         have f0 : wr.frozen? ⟨w.heap.size + 1, 2, none⟩ = false := Lib.frozen_of_heap hl6 2
         have e0 := bits_or_u64_nat C (X3.bitsOf lo hi 2) hC (X3.bits_lt _ _ _)
         have iz : ∀ w, (Instr.index 43 (.agg #[.int .u64 (((X3.bitsOf lo hi 0) : Nat) : Int), .int .u64 (((X3.bitsOf lo hi 1) : Nat) : Int), .int .u64 (((X3.bitsOf lo hi 2) : Nat) : Int), .int .u64 (((X3.bitsOf lo hi 3) : Nat) : Int)]) (.int .i64 2)).run Tryz.prog w = .ok (.int .u64 (((X3.bitsOf lo hi 2) : Nat) : Int)) w := fun _ => by kernel_rfl
         go_wp2_with fail
         have z := heap_setCell_same wr (w.heap.size + 1) 2 _ 43 (U (C ||| (X3.bitsOf lo hi 2))) hl6
         exact ⟨⟨3, by omega, rfl, (Below.heap_setCell _ _ _ _ hbn).trans hr6, z, (Below.heap_setCell _ _ _ _ (by simp)).trans hz6, gr_new hG6 (Nat.le_succ _) _ _, by simpa using hs6⟩, by decide⟩
        ·skip
         have c0 : wr.cell? ⟨w.heap.size + 1, 3, none⟩ = some (U D) := by rw [Lib.cell_of_heap hl6]; rfl
         have f0 : wr.frozen? ⟨w.heap.size + 1, 3, none⟩ = false := Lib.frozen_of_heap hl6 3
         have e0 := bits_or_u64_nat D (X3.bitsOf lo hi 3) hD (X3.bits_lt _ _ _)
         have iz : ∀ w, (Instr.index 43 (.agg #[.int .u64 (((X3.bitsOf lo hi 0) : Nat) : Int), .int .u64 (((X3.bitsOf lo hi 1) : Nat) : Int), .int .u64 (((X3.bitsOf lo hi 2) : Nat) : Int), .int .u64 (((X3.bitsOf lo hi 3) : Nat) : Int)]) (.int .i64 3)).run Tryz.prog w = .ok (.int .u64 (((X3.bitsOf lo hi 3) : Nat) : Int)) w := fun _ => by kernel_rfl
         go_wp2_with fail
         have z := heap_setCell_same wr (w.heap.size + 1) 3 _ 43 (U (D ||| (X3.bitsOf lo hi 3))) hl6
         exact ⟨⟨4, by omega, rfl, (Below.heap_setCell _ _ _ _ hbn).trans hr6, z, (Below.heap_setCell _ _ _ _ (by simp)).trans hz6, gr_new hG6 (Nat.le_succ _) _ _, by simpa using hs6⟩, by decide⟩
        ·skip
         go_wp2_with fail
         have hR6 := HRN.out
         refine ⟨⟨f, m, _, _, _, _, hr6, m2, by omega, hR6, ⟨Nat.or_lt_two_pow hA (X3.bits_lt _ _ _), Nat.or_lt_two_pow hB (X3.bits_lt _ _ _), Nat.or_lt_two_pow hC (X3.bits_lt _ _ _), Nat.or_lt_two_pow hD (X3.bits_lt _ _ _)⟩, hl6, hz6, hG6, hs6⟩, ?_⟩
         rw [posOf_rd hr6, HP.out]
         omega
end Go.Proofs.YtochckefnjobhaaGreatDoor
namespace Go.Proofs.YtochckefnjobhaaGreatDoor
open Go Go.RowKit Go.Lib
set_option linter.unusedVariables false
theorem RepLS.at_ {b : Nat → Prop} {w : World} {g : Nat} : ∀ {l : List X3.RX} {j : Nat}, RepLS b w l g j → ∀ (k : Nat) (hk : k < l.length), ∃ (kd x y z u : Int) (kv : Value), RepS b w l[k] (nodeV kd x y z u kv) ∧
  w.cell? ⟨g, (j + k) * 6, none⟩ = some (.int .i64 kd) ∧ w.cell? ⟨g, (j + k) * 6 + 1, none⟩ = some (.int .u64 x) ∧ w.cell? ⟨g, (j + k) * 6 + 2, none⟩ = some (.int .u64 y) ∧
  w.cell? ⟨g, (j + k) * 6 + 3, none⟩ = some (.int .u64 z) ∧ w.cell? ⟨g, (j + k) * 6 + 4, none⟩ = some (.int .u64 u) ∧ w.cell? ⟨g, (j + k) * 6 + 5, none⟩ = some kv
 | _, _, .nil _ _, k, hk => by simp at hk
 | _, j, .cons r l _ _ kd x y z u kv h c0 c1 c2 c3 c4 c5 h2, 0, _ => by
  have e : (j + 0) * 6 = 6 * j := by omega
  rw [e]
  exact ⟨kd, x, y, z, u, kv, h, c0, c1, c2, c3, c4, c5⟩
 | _, j, .cons r l _ _ kd x y z u kv h c0 c1 c2 c3 c4 c5 h2, k + 1, hk => by
  have := RepLS.at_ h2 k (by simpa using hk)
  rw [show j + 1 + k = j + (k + 1) by omega] at this
  simpa using this
theorem RepS.slice {b : Nat → Prop} {w : World} {r : X3.RX} {kd x y z u : Int} {kv : Value} (h : RepS b w r (nodeV kd x y z u kv)) : ∃ o n c, kv = .slice o n c := by
 generalize hv : nodeV kd x y z u kv = v at h
 cases h
 all_goals
  simp only [nodeV, Value.agg.injEq, Array.mk.injEq, List.cons.injEq] at hv
  exact ⟨_, _, _, hv.2.2.2.2.2.1⟩
theorem sizeL_take (l : List X3.RX) (k : Nat) (hk : k < l.length) : X3.sizeL (l.take (k + 1)) = X3.sizeL (l.take k) + l[k].size := by
 induction l generalizing k with
 | nil => simp at hk
 | cons r l ih =>
  cases k with
  | zero => simp [X3.sizeL]
  | succ k =>
   simp only [List.take_succ_cons, X3.sizeL, List.getElem_cons_succ]
   rw [ih k (by simpa using hk)]
   omega
theorem sizeL_le (l : List X3.RX) (k : Nat) : X3.sizeL (l.take k) ≤ X3.sizeL l := by
 induction l generalizing k with
 | nil => simp
 | cons r l ih =>
  cases k with
  | zero => simp [X3.sizeL]
  | succ k => simp only [List.take_succ_cons, X3.sizeL]; have := ih k; omega
theorem size_in (l : List X3.RX) (k : Nat) (hk : k < l.length) : l[k].size ≤ X3.sizeL l := by
 have := sizeL_take l k hk
 have := sizeL_le l (k + 1)
 omega
set_option maxRecDepth 100000 in
set_option maxHeartbeats 4000000 in
theorem size_kids (b : Nat) (w : World) (l : List X3.RX) (g cap : Nat) (kd x y z u : Int) (hl : RepL b w l g 0) (hg : b ≤ g) (hw : g < w.heap.size) (hn : 1 + X3.sizeL l < 9223372036854775808) (hll : l.length < 9223372036854775808) (hcap : l.length ≤ cap)
  (ih : ∀ (k : Nat) (hk : k < l.length) (w' : World) (v : Value), Rep b w' l[k] v → Calls Tryz.prog 105 #[v] w' fun e w'' => e = .returned (.int .i64 (l[k].size : Nat)) ∧ Below w'.heap.size w' w'') :
  Calls Tryz.prog 105 #[nodeV kd x y z u (.slice (some ⟨g, 0, none⟩) l.length cap)] w fun e w' => e = .returned (.int .i64 ((1 + X3.sizeL l : Nat) : Int)) ∧ Below w.heap.size w w' := by
 have IH := hid ih
 have HL := hid hl
 clear ih hl
 go_enter Tryz.func105, Tryz.ntmps105
 go_wp2_with fail
 go_loopw [3, 9] (fun n i wr => ∃ k : Nat, k ≤ l.length ∧ i = .int .i64 (k : Int) ∧ (∃ N : Nat, n = .int .i64 (N : Int) ∧ N = 1 + X3.sizeL (l.take k)) ∧ Below w.heap.size w wr) (fun _ i _ => l.length - (RowKit.intOf i).toNat)
 case atStart => exact ⟨0, by omega, rfl, ⟨1, rfl, by simp [X3.sizeL]⟩, (Below.refl _ w).alloc (Nat.le_refl _) _⟩
 case round =>
  obtain ⟨k, hk, rfl, ⟨N, rfl, hN⟩, hB⟩ := hrel
  by_cases hlt : k < l.length
  ·obtain ⟨kd', x', y', z', u', kv', hR, c0, c1, c2, c3, c4, c5⟩ := RepLS.at_ (HL.out.kept (keep_below hB) hg hw) k hlt
   rw [Nat.zero_add] at c0 c1 c2 c3 c4 c5
   have h1 : (k : Int) < (l.length : Int) := by omega
   have h2 : (0 : Int) ≤ (k : Int) := by omega
   obtain ⟨ko, kn, kc, rfl⟩ := hR.slice
   have hsz := sizeL_take l k hlt
   have hle := sizeL_le l (k + 1)
   have hI := hid (IH.out k hlt)
   generalize hM : l[k].size = M at *
   have a0 : (0 : Int) ≤ (N : Int) + (M : Int) := by omega
   have a1 : (N : Int) + (M : Int) < 9223372036854775808 := by omega
   go_wp2_with fail
   refine (hI.out _ _ (hR.kept (keep_below ((Below.refl _ wr).alloc (Nat.le_refl _) _)))).mono ?_
   rintro e w2 ⟨rfl, hb2⟩
   go_wp2_with fail
   refine ⟨⟨k + 1, by omega, rfl, ⟨1 + X3.sizeL (l.take k) + M, rfl, by omega⟩, (hB.alloc hB.size _).trans (hb2.mono (by have := hB.size; simp; omega))⟩, ?_⟩
   show l.length - ((k : Int) + 1).toNat < l.length - ((k : Int)).toNat
   omega
  ·have h1 : ¬ (k : Int) < (l.length : Int) := by omega
   go_wp2_with fail
   go_ret
   obtain rfl : k = l.length := by omega
   exact ⟨by rw [List.take_length]; rfl, hB⟩
theorem size_pos (r : X3.RX) : 1 ≤ r.size := by cases r <;> simp only [X3.RX.size] <;> omega
theorem length_le_sizeL (l : List X3.RX) : l.length ≤ X3.sizeL l := by
 induction l with
 | nil => simp
 | cons r l ih => simp only [List.length_cons, X3.sizeL]; have := size_pos r; omega
theorem size_any (b : Nat) : ∀ (n : Nat) (w : World) (r : X3.RX) (v : Value), r.size ≤ n → r.size < 9223372036854775808 → Rep b w r v →
  Calls Tryz.prog 105 #[v] w fun e w' => e = .returned (.int .i64 (r.size : Nat)) ∧ Below w.heap.size w w' := by
 intro n
 induction n with
 | zero => intro w r v h; have := size_pos r; omega
 | succ n ih =>
  intro w r v hn hb hR
  have leaf : ∀ (kd x y z u : Int), Calls Tryz.prog 105 #[nodeV kd x y z u noKids] w fun e w' => e = .returned (.int .i64 1) ∧ Below w.heap.size w w' := by
   intro kd x y z u
   go_enter Tryz.func105, Tryz.ntmps105
   go_wp2_with fail
   go_loopw [3, 9] (fun n i wr => i = .int .i64 0 ∧ n = .int .i64 1 ∧ Below w.heap.size w wr) (fun _ _ _ => 0)
   case atStart => exact ⟨rfl, rfl, (Below.refl _ w).alloc (Nat.le_refl _) _⟩
   case round =>
    obtain ⟨rfl, rfl, hB⟩ := hrel
    go_wp2_with fail
    go_ret
    exact ⟨rfl, hB⟩
  cases hR with
  | empty => exact leaf 0 0 0 0 0
  | bytes x y z u hx hy hz hu => exact leaf 1 x y z u
  | cat l g cap h hc hg hw h0 =>
   simp only [X3.RX.size] at hn hb ⊢
   have h1 := length_le_sizeL l
   exact size_kids b w l g cap 2 0 0 0 0 h hg hw (by omega) (by omega) hc fun k hk w' v hv => ih w' _ v (by have := size_in l k hk; omega) (by have := size_in l k hk; omega) hv
  | alt l g cap h hc hg hw h0 =>
   simp only [X3.RX.size] at hn hb ⊢
   have h1 := length_le_sizeL l
   exact size_kids b w l g cap 3 0 0 0 0 h hg hw (by omega) (by omega) hc fun k hk w' v hv => ih w' _ v (by have := size_in l k hk; omega) (by have := size_in l k hk; omega) hv
  | star r g cap h hc hg hw =>
   simp only [X3.RX.size] at hn hb ⊢
   have := size_kids b w [r] g cap 4 0 0 0 0 h hg hw (by simp only [X3.sizeL]; omega) (by simp) hc fun k hk w' v hv => ih w' _ v (by have := size_in [r] k hk; simp only [X3.sizeL] at this; omega) (by have := size_in [r] k hk; simp only [X3.sizeL] at this; omega) hv
   simp only [X3.sizeL, Nat.add_zero] at this
   exact this
end Go.Proofs.YtochckefnjobhaaGreatDoor
namespace Go.Proofs.YtochckefnjobhaaGreatDoor
open Go Go.RowKit Go.Lib
set_option linter.unusedVariables false
theorem RepS.shape {b : Nat → Prop} {w : World} {r : X3.RX} {v : Value} (h : RepS b w r v) : ∃ (kd x y z u : Int) (o : Option Addr) (n c : Nat), v = nodeV kd x y z u (.slice o n c) := by
 cases h <;> exact ⟨_, _, _, _, _, _, _, _, rfl⟩
def SP (B b : Nat) (s : ByteArray) (w : World) (r : X3.PR X3.RX) (v : Value) (e : Ending) (w' : World) : Prop :=
 match r with
 | .ok r j => e = .returned v ∧ Rep B w' r v ∧ (Rd b s j w' ∧ Gr b w w' ∧ j ≤ s.size)
 | .err c => e = flt c ∧ Gr b w w'
theorem fail4 (b : Nat) (w : World) :
  Calls Tryz.prog 82 #[.pointer (some ⟨b, 0, none⟩), .int .i64 4] w fun e w' => e = flt 4 ∧ w' = w := fail_any b 4 w
set_option maxRecDepth 100000 in
set_option maxHeartbeats 1000000 in
theorem sized_any (B b : Nat) (s : ByteArray) (i : Nat) (w : World) (r : X3.RX) (v : Value) (h : Rd b s i w) (hi : i ≤ s.size) (hR : Rep B w r v) (hb : r.size < 9223372036854775808) :
  Calls Tryz.prog 83 #[.pointer (some ⟨b, 0, none⟩), v] w (SP B b s w (X3.sizedX r i) v) := by
 have hbw : b < w.heap.size := (Array.getElem?_eq_some_iff.1 h).1
 obtain ⟨kd, x, y, z, u, o, n, c, rfl⟩ := hR.shape
 have ks := hid fun (w : World) (v : Value) (h : Rep B w r v) => size_any B _ w r v (Nat.le_refl _) hb h
 have kf := hid fun w => fail4 b w
 have HR := hid hR
 unfold X3.sizedX
 clear hR
 by_cases hg : 500 < r.size
 ·rw [if_pos hg]
  have h1 : (500 : Int) < (r.size : Int) := by omega
  go_enter Tryz.func83, Tryz.ntmps83
  go_wp2_with fail
  refine (ks.out _ _ (HR.out.kept (keep_below (below_two _ _ _)))).mono ?_
  rintro e w2 ⟨rfl, hb2⟩
  go_wp2_with fail
  refine (kf.out _).mono ?_
  rintro e w3 ⟨rfl, rfl⟩
  exact ⟨rfl, rfl, gr_below ((below_two _ _ _).trans (hb2.mono (by simp; omega)))⟩
 ·rw [if_neg hg]
  have h1 : ¬ (500 : Int) < (r.size : Int) := by omega
  obtain ⟨w0, hw0⟩ : ∃ w0, w0 = (w.alloc (.cells #[.int .i64 kd, .int .u64 x, .int .u64 y, .int .u64 z, .int .u64 u, .slice o n c] 46)).alloc (.cells zero6 46) := ⟨_, rfl⟩
  have hb0 : Below w.heap.size w w0 := by rw [hw0]; exact below_two _ _ _
  have hz0 : w0.heap[w.heap.size + 1]? = some (.cells zero6 46 (0, 0)) := by rw [hw0]; exact new_block2 _ _ _
  have hv0 : w0.heap[w.heap.size]? = some (.cells #[.int .i64 kd, .int .u64 x, .int .u64 y, .int .u64 z, .int .u64 u, .slice o n c] 46 (0, 0)) := by rw [hw0]; exact (Below.heap_alloc _ _ _ (by simp)).trans (new_block _ _)
  have hs0 : w0.heap.size = w.heap.size + 1 + 1 := by rw [hw0]; simp
  unfold zero6 at hw0
  go_enter Tryz.func83, Tryz.ntmps83
  go_upto_region 1 with fail
  rw [← hw0]
  clear hw0
  have p0 : w0.cell? ⟨w.heap.size, 0, none⟩ = some (.int .i64 kd) := by rw [Lib.cell_of_heap hv0]; rfl
  have p1 : w0.cell? ⟨w.heap.size, 1, none⟩ = some (.int .u64 x) := by rw [Lib.cell_of_heap hv0]; rfl
  have p2 : w0.cell? ⟨w.heap.size, 2, none⟩ = some (.int .u64 y) := by rw [Lib.cell_of_heap hv0]; rfl
  have p3 : w0.cell? ⟨w.heap.size, 3, none⟩ = some (.int .u64 z) := by rw [Lib.cell_of_heap hv0]; rfl
  have p4 : w0.cell? ⟨w.heap.size, 4, none⟩ = some (.int .u64 u) := by rw [Lib.cell_of_heap hv0]; rfl
  have p5 : w0.cell? ⟨w.heap.size, 5, none⟩ = some (.slice o n c) := by rw [Lib.cell_of_heap hv0]; rfl
  go_wp2_with fail
  refine (ks.out _ _ (HR.out.kept (keep_below hb0))).mono ?_
  rintro e w2 ⟨rfl, hb2⟩
  have hv2 := (hb2.block w.heap.size (by omega)).trans hv0
  have hz2 := (hb2.block (w.heap.size + 1) (by omega)).trans hz0
  have hB2 : Below w.heap.size w w2 := hb0.trans (hb2.mono (by omega))
  unfold zero6 at hz2
  have m0 : w2.cell? ⟨w.heap.size, 0, none⟩ = some (.int .i64 kd) := by rw [Lib.cell_of_heap hv2]; rfl
  have n0 : w2.cell? ⟨w.heap.size + 1, 0, none⟩ = some (.int .i64 0) := by rw [Lib.cell_of_heap hz2]; rfl
  have f0 : w2.frozen? ⟨w.heap.size + 1, 0, none⟩ = false := Lib.frozen_of_heap hz2 0
  have m1 : w2.cell? ⟨w.heap.size, 1, none⟩ = some (.int .u64 x) := by rw [Lib.cell_of_heap hv2]; rfl
  have n1 : w2.cell? ⟨w.heap.size + 1, 1, none⟩ = some (.int .u64 0) := by rw [Lib.cell_of_heap hz2]; rfl
  have f1 : w2.frozen? ⟨w.heap.size + 1, 1, none⟩ = false := Lib.frozen_of_heap hz2 1
  have m2 : w2.cell? ⟨w.heap.size, 2, none⟩ = some (.int .u64 y) := by rw [Lib.cell_of_heap hv2]; rfl
  have n2 : w2.cell? ⟨w.heap.size + 1, 2, none⟩ = some (.int .u64 0) := by rw [Lib.cell_of_heap hz2]; rfl
  have f2 : w2.frozen? ⟨w.heap.size + 1, 2, none⟩ = false := Lib.frozen_of_heap hz2 2
  have m3 : w2.cell? ⟨w.heap.size, 3, none⟩ = some (.int .u64 z) := by rw [Lib.cell_of_heap hv2]; rfl
  have n3 : w2.cell? ⟨w.heap.size + 1, 3, none⟩ = some (.int .u64 0) := by rw [Lib.cell_of_heap hz2]; rfl
  have f3 : w2.frozen? ⟨w.heap.size + 1, 3, none⟩ = false := Lib.frozen_of_heap hz2 3
  have m4 : w2.cell? ⟨w.heap.size, 4, none⟩ = some (.int .u64 u) := by rw [Lib.cell_of_heap hv2]; rfl
  have n4 : w2.cell? ⟨w.heap.size + 1, 4, none⟩ = some (.int .u64 0) := by rw [Lib.cell_of_heap hz2]; rfl
  have f4 : w2.frozen? ⟨w.heap.size + 1, 4, none⟩ = false := Lib.frozen_of_heap hz2 4
  have m5 : w2.cell? ⟨w.heap.size, 5, none⟩ = some (.slice o n c) := by rw [Lib.cell_of_heap hv2]; rfl
  have n5 : w2.cell? ⟨w.heap.size + 1, 5, none⟩ = some noKids := by rw [Lib.cell_of_heap hz2]; rfl
  have f5 : w2.frozen? ⟨w.heap.size + 1, 5, none⟩ = false := Lib.frozen_of_heap hz2 5
  go_wp2_with fail
  have z0 := heap_setCell_same w2 (w.heap.size + 1) 0 _ 46 (.int .i64 kd) hz2
  have z1 := heap_setCell_same _ (w.heap.size + 1) 1 _ 46 (.int .u64 x) z0
  have z2 := heap_setCell_same _ (w.heap.size + 1) 2 _ 46 (.int .u64 y) z1
  have z3 := heap_setCell_same _ (w.heap.size + 1) 3 _ 46 (.int .u64 z) z2
  have z4 := heap_setCell_same _ (w.heap.size + 1) 4 _ 46 (.int .u64 u) z3
  have z5 := heap_setCell_same _ (w.heap.size + 1) 5 _ 46 (.slice o n c) z4
  have hB8 : Below w.heap.size w ((((((w2.setCell ⟨w.heap.size + 1, 0, none⟩ (.int .i64 kd)).setCell ⟨w.heap.size + 1, 1, none⟩ (.int .u64 x)).setCell ⟨w.heap.size + 1, 2, none⟩ (.int .u64 y)).setCell ⟨w.heap.size + 1, 3, none⟩ (.int .u64 z)).setCell ⟨w.heap.size + 1, 4, none⟩ (.int .u64 u)).setCell ⟨w.heap.size + 1, 5, none⟩ (.slice o n c)) := (((((hB2.setCell (Nat.le_succ _) _).setCell (Nat.le_succ _) _).setCell (Nat.le_succ _) _).setCell (Nat.le_succ _) _).setCell (Nat.le_succ _) _).setCell (Nat.le_succ _) _
  generalize ((((((w2.setCell ⟨w.heap.size + 1, 0, none⟩ (.int .i64 kd)).setCell ⟨w.heap.size + 1, 1, none⟩ (.int .u64 x)).setCell ⟨w.heap.size + 1, 2, none⟩ (.int .u64 y)).setCell ⟨w.heap.size + 1, 3, none⟩ (.int .u64 z)).setCell ⟨w.heap.size + 1, 4, none⟩ (.int .u64 u)).setCell ⟨w.heap.size + 1, 5, none⟩ (.slice o n c)) = w8 at *
  have y0 : w8.cell? ⟨w.heap.size + 1, 0, none⟩ = some (.int .i64 kd) := by rw [Lib.cell_of_heap z5]; rfl
  have y1 : w8.cell? ⟨w.heap.size + 1, 1, none⟩ = some (.int .u64 x) := by rw [Lib.cell_of_heap z5]; rfl
  have y2 : w8.cell? ⟨w.heap.size + 1, 2, none⟩ = some (.int .u64 y) := by rw [Lib.cell_of_heap z5]; rfl
  have y3 : w8.cell? ⟨w.heap.size + 1, 3, none⟩ = some (.int .u64 z) := by rw [Lib.cell_of_heap z5]; rfl
  have y4 : w8.cell? ⟨w.heap.size + 1, 4, none⟩ = some (.int .u64 u) := by rw [Lib.cell_of_heap z5]; rfl
  have y5 : w8.cell? ⟨w.heap.size + 1, 5, none⟩ = some (.slice o n c) := by rw [Lib.cell_of_heap z5]; rfl
  exact bodyPost_ret (v := nodeV kd x y z u (.slice o n c)) (by simp [results, Tryz.results83, go_sem, y0, y1, y2, y3, y4, y5]) rfl ⟨rfl, HR.out.kept (keep_below hB8), (hB8.block b hbw).trans h, gr_below hB8, hi⟩
end Go.Proofs.YtochckefnjobhaaGreatDoor
