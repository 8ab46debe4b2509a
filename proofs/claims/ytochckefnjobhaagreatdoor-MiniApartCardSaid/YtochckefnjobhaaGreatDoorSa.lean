/- regex's reader: the whole, and Parse. -/
import Derived.Test.YtochckefnjobhaaGreatDoorRr
import Derived.Laws.Bits64b
namespace Go.Proofs.YtochckefnjobhaaGreatDoor
open Go Go.RowKit Go.Lib
set_option linter.unusedVariables false
set_option linter.unusedSimpArgs false
def wholeX (s : List UInt8) : X3.PR X3.RX :=
 (X3.waysX s (s.length + 1) 0).bind fun r i => if i < s.length then .err 5 else X3.sizedX r i
def WP (b : Nat) (w : World) (r : X3.PR X3.RX) (e : Ending) (w' : World) : Prop :=
 match r with
 | .ok r _ => ∃ v, e = .returned (.tuple #[v, .int .i64 0]) ∧ Rep w.heap.size w' r v ∧ Gr b w w'
 | .err c => e = .returned (.tuple #[nodeV 0 0 0 0 0 noKids, .int .i64 c]) ∧ Gr b w w'
set_option maxRecDepth 100000 in
set_option maxHeartbeats 4000000 in
theorem whole_any (b : Nat) (s : ByteArray) (w : World) (h : Rd b s 0 w) (hs : s.size ≤ 1000) :
  Calls Tryz.prog 49 #[.pointer (some ⟨b, 0, none⟩)] w (WP b w (wholeX (LL s))) := by
 have hmf : ∀ (fn : Fn) (first cap : Array Value) (w : World), (Instr.makeFunc fn first cap).run Tryz.prog w = .ok (.func fn first cap) w := fun _ _ _ _ => rfl
 have hbw : b < w.heap.size := (Array.getElem?_eq_some_iff.1 h).1
 have hbn : b ≠ w.heap.size := by omega
 have hne : w.heap.size ≠ b := by omega
 have hne1 : w.heap.size + 1 ≠ b := by omega
 have hsm : s.size ≤ maxLen := by unfold maxLen; omega
 have hll : (LL s).length = s.size := rfl
 obtain ⟨w0, e0⟩ : ∃ w0, (w.alloc (.cells zero6 46)).alloc (.cells #[.int .i64 0] 29) = w0 := ⟨_, rfl⟩
 have hb0 : Below w.heap.size w w0 := by rw [← e0]; exact below_two _ _ _
 have hz0 : w0.heap[w.heap.size]? = some (.cells zero6 46 (0, 0)) := by rw [← e0]; exact (Below.heap_alloc _ _ _ (by simp)).trans (new_block _ _)
 have hv0 : w0.heap[w.heap.size + 1]? = some (.cells #[.int .i64 0] 29 (0, 0)) := by rw [← e0]; exact new_block2 _ _ _
 have hs0 : w0.heap.size = w.heap.size + 1 + 1 := by rw [← e0]; simp
 have h0 : Rd b s 0 w0 := (hb0.block b hbw).trans h
 unfold zero6 at e0
 have KW := hid (ways_any b s hs ((LL s).length + 1) 0 w0 h0 (by omega) (by rw [hll]; omega))
 have HX : Hid (wholeX (LL s) = (X3.waysX (LL s) ((LL s).length + 1) 0).bind fun r i => if i < (LL s).length then .err 5 else X3.sizedX r i) := hid rfl
 have HSZ := hid (fun r j (h : X3.waysX (LL s) ((LL s).length + 1) 0 = .ok r j) => X3.ways_size (Nat.zero_le _) h)
 generalize wholeX (LL s) = RR at *
 have PANIC : Hid (∀ (n : Nat) (w1 : World), Gr b w w1 → (∃ a0 a1 a2 a3 a4 a5, w1.heap[w.heap.size]? = some (.cells #[a0, a1, a2, a3, a4, a5] 46 (0, 0))) → (∃ v, w1.heap[w.heap.size + 1]? = some (.cells #[v] 29 (0, 0))) → RR = .err n →
   ∀ tmps : Array Value, tmps[2]? = some (.pointer (some ⟨w.heap.size, 0, none⟩)) → tmps[3]? = some (.pointer (some ⟨w.heap.size + 1, 0, none⟩)) →
   bodyPostD Tryz.prog Tryz.f49 (WP b w RR) (Exit.panic [{ v := .iface 136 (.agg #[.int .i64 n]), recovered := false }]) { tmps := tmps, defers := [{ target := Target.fn (Fn.func 80) #[.pointer (some ⟨w.heap.size, 0, none⟩), .pointer (some ⟨w.heap.size + 1, 0, none⟩)], args := #[] }] } w1) := by
  intro n w1 hg ha hv hR tmps t2 t3
  subst hR
  refine leaves_cons (f := 80) (args := #[.pointer (some ⟨w.heap.size, 0, none⟩), .pointer (some ⟨w.heap.size + 1, 0, none⟩)]) (by simp) (by simp [go_sem]) ?_
  refine (catch_panicking w.heap.size (w.heap.size + 1) n _ ha hv (by omega)).mono ?_
  rintro e u' w2 ⟨rfl, rfl, hz, hv, h1, h2, h3, h4, h5⟩
  unfold zero6 at hz
  obtain ⟨y0, y1, y2, y3, y4, y5⟩ := cells6 hz
  have x0 : w2.cell? ⟨w.heap.size + 1, 0, none⟩ = some (.int .i64 n) := by rw [Lib.cell_of_heap hv]; rfl
  have hsz := hg.size
  have hG : Gr b w w2 := ⟨h1.trans hg.os, h2.trans hg.tape, h3.trans hg.output, by omega, fun k hk hne => (h5 k (by omega) (by omega) (by omega)).trans (hg.block k hk hne)⟩
  simp [Leaves, settle, results, Tryz.results49, go_sem, t2, t3, y0, y1, y2, y3, y4, y5, x0]
  exact ⟨rfl, hG⟩
 go_enter_defers Tryz.func49, Tryz.ntmps49
 cases hA : X3.waysX (LL s) ((LL s).length + 1) 0 with
 | err c =>
  rw [hA] at HX KW
  have hR := hid HX.out
  go_wp2_with fail
  refine KW.out.mono ?_
  rintro e w1 ⟨rfl, hg⟩
  show bodyPostD Tryz.prog Tryz.f49 (WP b w RR) (Exit.panic [{ v := .iface 136 (.agg #[.int .i64 (c : Int)]), recovered := false }]) _ w1
  refine PANIC.out c w1 (World.grownBy.trans (gr_below hb0) hg) ⟨_, _, _, _, _, _, (hg.block _ (by omega) (fun e => hne (Option.some.inj e))).trans hz0⟩ ⟨_, (hg.block _ (by omega) (fun e => hne1 (Option.some.inj e))).trans hv0⟩ hR.out _ ?_ ?_
  ·rfl
  ·rfl
 | ok r j =>
  have hsz := HSZ.out r j hA
  rw [hA] at HX KW
  replace HX : Hid (RR = if j < (LL s).length then .err 5 else X3.sizedX r j) := HX
  go_wp2_with fail
  refine KW.out.mono ?_
  rintro e w1 ⟨v, rfl, hR, hr, hg, hj⟩
  obtain ⟨ka, kx, ky, kz, ku, ko, kn, kc, rfl⟩ := hR.shape
  have HR := hid (show Rep (w.heap.size + 2) w1 r _ from hR.mono (by omega))
  have hz1 := (hg.block w.heap.size (by omega) (fun e => hne (Option.some.inj e))).trans hz0
  have hv1 := (hg.block (w.heap.size + 1) (by omega) (fun e => hne1 (Option.some.inj e))).trans hv0
  have hs1 := hg.size
  unfold zero6 at hz1
  obtain ⟨n0, n1, n2, n3, n4, n5⟩ := cells6 hz1
  obtain ⟨f0, f1, f2, f3, f4, f5⟩ := frozen6 hz1
  obtain ⟨w8, e8, hz8, hg8, hs8⟩ := six hz1 (.int .i64 ka) (.int .u64 kx) (.int .u64 ky) (.int .u64 kz) (.int .u64 ku) (.slice ko kn kc)
  have hr8 : Rd b s j w8 := (hg8.block b (by omega) (fun e => hbn (Option.some.inj e))).trans hr
  have hv8 := (hg8.block (w.heap.size + 1) (by omega) (fun e => by have := Option.some.inj e; omega)).trans hv1
  have HR8 := hid (HR.out.kept (keep_gr (b := w.heap.size) (by omega) hg8))
  have hG1 : Gr b w w1 := World.grownBy.trans (gr_below hb0) hg
  have hG8 : Gr b w w8 := gr_fresh hG1 (Nat.le_refl _) hg8
  have c0 : w8.cell? ⟨b, 0, none⟩ = some (.string s) := by rw [Lib.cell_of_heap hr8]; rfl
  have c1 : w8.cell? ⟨b, 1, none⟩ = some (.int .i64 j) := by rw [Lib.cell_of_heap hr8]; rfl
  have kf := hid fun w => fail_any b 5 w
  clear hR hz1 hr hv1 HSZ KW
  unfold maxLen at hsm
  by_cases hlt : j < s.size
  ·have hR : Hid (RR = .err 5) := hid (by rw [HX.out, if_pos (by rw [hll]; exact hlt)])
   have hl1 : (j : Int) < (s.size : Int) := by omega
   go_upto_region 3 with fail
   go_quiet (fail)
   go_wp2_with fail
   refine (kf.out _).mono ?_
   rintro e w3 ⟨rfl, rfl⟩
   show bodyPostD Tryz.prog Tryz.f49 (WP b w RR) (Exit.panic [{ v := .iface 136 (.agg #[.int .i64 ((5 : Nat) : Int)]), recovered := false }]) _ (w8.drewN nq)
   refine PANIC.out 5 _ (World.grownBy.trans hG8 (gr_below (below_drewN (Below.refl _ _) _))) ⟨_, _, _, _, _, _, hz8⟩ ⟨_, hv8⟩ hR.out _ ?_ ?_
   ·rfl
   ·rfl
  ·have hR : Hid (RR = X3.sizedX r j) := hid (by rw [HX.out, if_neg (by rw [hll]; exact hlt)])
   have hl1 : ¬ (j : Int) < (s.size : Int) := by omega
   go_upto_region 3 with fail
   go_quiet (fail)
   obtain ⟨wd, hwd⟩ : ∃ wd, w8.drewN nq = wd := ⟨_, rfl⟩
   have hbd : Below w8.heap.size w8 wd := by rw [← hwd]; exact below_drewN (Below.refl _ _) _
   have hzd : wd.heap[w.heap.size]? = some (.cells #[.int .i64 ka, .int .u64 kx, .int .u64 ky, .int .u64 kz, .int .u64 ku, .slice ko kn kc] 46 (0, 0)) := by rw [← hwd]; exact hz8
   have hvd : wd.heap[w.heap.size + 1]? = some (.cells #[.int .i64 0] 29 (0, 0)) := by rw [← hwd]; exact hv8
   have hrd : Rd b s j wd := by rw [← hwd]; exact hr8
   rw [hwd]
   have KS := hid (sized_any (w.heap.size + 2) b s j wd r _ hrd hj (HR8.out.kept (keep_below hbd)) (by omega))
   obtain ⟨p0, p1, p2, p3, p4, p5⟩ := cells6 hzd
   have hsd := hbd.size
   clear hwd c0 c1
   cases hS : X3.sizedX r j with
   | err c =>
    rw [hS] at hR KS
    go_wp2_with fail
    refine KS.out.mono ?_
    rintro e w3 ⟨rfl, hg3⟩
    show bodyPostD Tryz.prog Tryz.f49 (WP b w RR) (Exit.panic [{ v := .iface 136 (.agg #[.int .i64 (c : Int)]), recovered := false }]) _ w3
    refine PANIC.out c w3 (World.grownBy.trans hG8 (World.grownBy.trans (gr_below hbd) hg3)) ⟨_, _, _, _, _, _, (hg3.block _ (by omega) (fun e => hne (Option.some.inj e))).trans hzd⟩ ⟨_, (hg3.block _ (by omega) (fun e => hne1 (Option.some.inj e))).trans hvd⟩ hR.out _ ?_ ?_
    ·rfl
    ·rfl
   | ok r' j' =>
    rw [hS] at hR KS
    obtain ⟨rfl, rfl, h500⟩ := X3.sized_at hS
    go_wp2_with fail
    refine KS.out.mono ?_
    rintro e w3 ⟨rfl, hR3, hr3, hg3, hj3⟩
    have hz3 := (hg3.block _ (by omega) (fun e => hne (Option.some.inj e))).trans hzd
    have hv3 := (hg3.block _ (by omega) (fun e => hne1 (Option.some.inj e))).trans hvd
    have hs3 := hg3.size
    obtain ⟨n0, n1, n2, n3, n4, n5⟩ := cells6 hz3
    obtain ⟨f0, f1, f2, f3, f4, f5⟩ := frozen6 hz3
    obtain ⟨w4, e4, hz4, hg4, hs4⟩ := six hz3 (.int .i64 ka) (.int .u64 kx) (.int .u64 ky) (.int .u64 kz) (.int .u64 ku) (.slice ko kn kc)
    have hv4 := (hg4.block (w.heap.size + 1) (by omega) (fun e => by have := Option.some.inj e; omega)).trans hv3
    have x4 : w4.cell? ⟨w.heap.size + 1, 0, none⟩ = some (.int .i64 0) := by rw [Lib.cell_of_heap hv4]; rfl
    have z4 : w4.frozen? ⟨w.heap.size + 1, 0, none⟩ = false := Lib.frozen_of_heap hv4 0
    obtain ⟨w5, e5, hv5, hg5, hs5⟩ := one_cell hv4 (.int .i64 0)
    have hz5 := (hg5.block w.heap.size (by omega) (fun e => by have := Option.some.inj e; omega)).trans hz4
    have HR5 := hid ((hR3.kept (keep_gr (b := w.heap.size) (by omega) hg4)).kept (keep_gr (b := w.heap.size + 1) (by omega) hg5))
    have hG5 : Gr b w w5 := gr_fresh (gr_fresh (World.grownBy.trans hG8 (World.grownBy.trans (gr_below hbd) hg3)) (Nat.le_refl _) hg4) (by omega) hg5
    clear hR3
    go_wp2_with fail
    refine leaves_cons (f := 80) (args := #[.pointer (some ⟨w.heap.size, 0, none⟩), .pointer (some ⟨w.heap.size + 1, 0, none⟩)]) (by simp) (by simp [go_sem]) ?_
    refine (catch_idle ⟨w.heap.size, 0, none⟩ ⟨w.heap.size + 1, 0, none⟩ _).mono ?_
    rintro e u' w6 ⟨rfl, rfl, rfl⟩
    obtain ⟨y0, y1, y2, y3, y4, y5⟩ := cells6 hz5
    have x5 : w6.cell? ⟨w.heap.size + 1, 0, none⟩ = some (.int .i64 0) := by rw [Lib.cell_of_heap hv5]; rfl
    have hRR := hR.out
    subst hRR
    simp [Leaves, settle, results, Tryz.results49, go_sem, y0, y1, y2, y3, y4, y5, x5]
    exact ⟨_, rfl, HR5.out.mono (by omega), hG5⟩
end Go.Proofs.YtochckefnjobhaaGreatDoor
namespace Go.Proofs.YtochckefnjobhaaGreatDoor
open Go Go.RowKit Go.Lib
set_option linter.unusedVariables false
set_option linter.unusedSimpArgs false
def ParseP (w : World) (r : Nat ⊕ X3.RX) (e : Ending) (w' : World) : Prop :=
 match r with
 | .inl c => e = .returned (.tuple #[nodeV 0 0 0 0 0 noKids, .int .i64 c]) ∧ Below w.heap.size w w'
 | .inr r => ∃ v, e = .returned (.tuple #[v, .int .i64 0]) ∧ Rep w.heap.size w' r v ∧ Below w.heap.size w w'
theorem parse_whole {s : List UInt8} (h : s.length ≤ 200) : X3.parseX s = match wholeX s with | .err c => .inl c | .ok r _ => .inr r := by
 unfold X3.parseX wholeX
 rw [if_neg (by omega)]
 cases X3.waysX s (s.length + 1) 0 with
 | err c => rfl
 | ok r i =>
  show (if i < s.length then (Sum.inl 5 : Nat ⊕ X3.RX) else if 500 < r.size then Sum.inl 4 else Sum.inr r) = match (if i < s.length then X3.PR.err 5 else X3.sizedX r i) with | .err c => (Sum.inl c : Nat ⊕ X3.RX) | .ok r _ => Sum.inr r
  unfold X3.sizedX
  by_cases h1 : i < s.length
  ·rw [if_pos h1, if_pos h1]
  ·rw [if_neg h1, if_neg h1]
   by_cases h2 : 500 < r.size
   ·rw [if_pos h2, if_pos h2]
   ·rw [if_neg h2, if_neg h2]
set_option maxRecDepth 100000 in
set_option maxHeartbeats 4000000 in
theorem parse_any (s : ByteArray) (w : World) (hm : s.size ≤ maxLen) : Calls Tryz.prog 19 #[.string s] w (ParseP w (X3.parseX (LL s))) := by
 have hll : (LL s).length = s.size := rfl
 unfold maxLen at hm
 obtain ⟨w0, e0⟩ : ∃ w0, w.alloc (.cells zero6 46) = w0 := ⟨_, rfl⟩
 have hb0 : Below w.heap.size w w0 := by rw [← e0]; exact (Below.refl _ _).alloc (Nat.le_refl _) _
 have hz0 : w0.heap[w.heap.size]? = some (.cells zero6 46 (0, 0)) := by rw [← e0]; exact new_block _ _
 have hs0 : w0.heap.size = w.heap.size + 1 := by rw [← e0]; simp
 unfold zero6 at e0 hz0
 by_cases hlt : 200 < s.size
 ·have hX : X3.parseX (LL s) = .inl 4 := by unfold X3.parseX; rw [if_pos (by rw [hll]; exact hlt)]
  rw [hX]
  have h1 : (200 : Int) < (s.size : Int) := by omega
  obtain ⟨n0, n1, n2, n3, n4, n5⟩ := cells6 hz0
  obtain ⟨f0, f1, f2, f3, f4, f5⟩ := frozen6 hz0
  obtain ⟨w8, e8, hz8, hg8, hs8⟩ := six hz0 (.int .i64 0) (.int .u64 0) (.int .u64 0) (.int .u64 0) (.int .u64 0) (.slice none 0 0)
  go_enter Tryz.func19, Tryz.ntmps19
  go_wp2_with fail
  obtain ⟨y0, y1, y2, y3, y4, y5⟩ := cells6 hz8
  exact bodyPost_ret (v := .tuple #[nodeV 0 0 0 0 0 noKids, .int .i64 4]) (by simp [results, Tryz.results19, go_sem, y0, y1, y2, y3, y4, y5]) rfl ⟨rfl, below_fresh hb0 (by omega) (Nat.le_refl _) hg8⟩
 ·have h1 : ¬ (200 : Int) < (s.size : Int) := by omega
  obtain ⟨w1, e1⟩ : ∃ w1, w0.alloc (.cells #[.string s, .int .i64 0] 96) = w1 := ⟨_, rfl⟩
  have hb1 : Below w0.heap.size w0 w1 := by rw [← e1]; exact (Below.refl _ _).alloc (Nat.le_refl _) _
  have hr1 : Rd (w.heap.size + 1) s 0 w1 := by rw [← e1, ← hs0]; exact new_block _ _
  have hs1 : w1.heap.size = w.heap.size + 1 + 1 := by rw [← e1]; simp [hs0]
  have hz1 := (hb1.block w.heap.size (by omega)).trans hz0
  have KW := hid (whole_any (w.heap.size + 1) s w1 hr1 (by omega))
  rw [parse_whole (by rw [hll]; omega)]
  have hB1 : Below w.heap.size w w1 := hb0.trans (hb1.mono (by omega))
  cases hW : wholeX (LL s) with
  | err c =>
   rw [hW] at KW
   go_enter Tryz.func19, Tryz.ntmps19
   go_wp2_with fail
   refine KW.out.mono ?_
   rintro e w2 ⟨rfl, hg2⟩
   have hz2 := (hg2.block w.heap.size (by omega) (fun e => by have := Option.some.inj e; omega)).trans hz1
   have hs2 := hg2.size
   obtain ⟨n0, n1, n2, n3, n4, n5⟩ := cells6 hz2
   obtain ⟨f0, f1, f2, f3, f4, f5⟩ := frozen6 hz2
   obtain ⟨w8, e8, hz8, hg8, hs8⟩ := six hz2 (.int .i64 0) (.int .u64 0) (.int .u64 0) (.int .u64 0) (.int .u64 0) (.slice none 0 0)
   go_wp2_with fail
   obtain ⟨y0, y1, y2, y3, y4, y5⟩ := cells6 hz8
   exact bodyPost_ret (v := .tuple #[nodeV 0 0 0 0 0 noKids, .int .i64 c]) (by simp [results, Tryz.results19, go_sem, y0, y1, y2, y3, y4, y5]) rfl ⟨rfl, below_fresh (below_fresh hB1 (by omega) (by omega) hg2) (by omega) (Nat.le_refl _) hg8⟩
  | ok r j =>
   rw [hW] at KW
   go_enter Tryz.func19, Tryz.ntmps19
   go_wp2_with fail
   refine KW.out.mono ?_
   rintro e w2 ⟨v, rfl, hR, hg2⟩
   obtain ⟨ka, kx, ky, kz, ku, ko, kn, kc, rfl⟩ := hR.shape
   have hz2 := (hg2.block w.heap.size (by omega) (fun e => by have := Option.some.inj e; omega)).trans hz1
   have hs2 := hg2.size
   obtain ⟨n0, n1, n2, n3, n4, n5⟩ := cells6 hz2
   obtain ⟨f0, f1, f2, f3, f4, f5⟩ := frozen6 hz2
   obtain ⟨w8, e8, hz8, hg8, hs8⟩ := six hz2 (.int .i64 ka) (.int .u64 kx) (.int .u64 ky) (.int .u64 kz) (.int .u64 ku) (.slice ko kn kc)
   have HR8 := hid (hR.kept (keep_gr (b := w.heap.size) (by omega) hg8))
   clear hR
   go_wp2_with fail
   obtain ⟨y0, y1, y2, y3, y4, y5⟩ := cells6 hz8
   exact bodyPost_ret (v := .tuple #[nodeV ka kx ky kz ku (.slice ko kn kc), .int .i64 0]) (by simp [results, Tryz.results19, go_sem, y0, y1, y2, y3, y4, y5]) rfl ⟨_, rfl, HR8.out.mono (by omega), below_fresh (below_fresh hB1 (by omega) (by omega) hg2) (by omega) (Nat.le_refl _) hg8⟩
end Go.Proofs.YtochckefnjobhaaGreatDoor
namespace Go.Proofs.X3
def hasX (r : RX) (x : Nat) : Bool :=
 match r with
 | .bytes a b c d => ((if x < 64 then a else if x < 128 then b else if x < 192 then c else d) >>> (x % 64)) % 2 == 1
 | _ => false
end Go.Proofs.X3
namespace Go.Proofs.YtochckefnjobhaaGreatDoor
open Go Go.RowKit Go.Lib
set_option linter.unusedVariables false
set_option linter.unusedSimpArgs false
set_option maxRecDepth 100000 in
set_option maxHeartbeats 2000000 in
theorem has_no (k : Int) (x y z u : Int) (kv : Value) (c : Nat) (hk : k ≠ 1) (w : World) :
  Calls Tryz.prog 101 #[nodeV k x y z u kv, .int .u8 (c : Int)] w fun e w' => e = .returned (.bool false) ∧ Below w.heap.size w w' := by
 have t1 : (k == 1) = false := by simpa using hk
 go_enter Tryz.func101, Tryz.ntmps101
 go_wp2_with fail
 go_ret
 exact ⟨rfl, (Below.refl _ w).alloc (Nat.le_refl _) _⟩
def wordAt (a b c d x : Nat) : Nat := if x < 64 then a else if x < 128 then b else if x < 192 then c else d
theorem wordAt_lt {a b c d : Nat} (ha : a < 2 ^ 64) (hb : b < 2 ^ 64) (hc : c < 2 ^ 64) (hd : d < 2 ^ 64) (x : Nat) : wordAt a b c d x < 2 ^ 64 := by
 unfold wordAt
 split
 ·exact ha
 ·split
  ·exact hb
  ·split
   ·exact hc
   ·exact hd
set_option maxRecDepth 100000 in
set_option maxHeartbeats 2000000 in
theorem has_bytes (a b c d : Nat) (ha : a < 2 ^ 64) (hb : b < 2 ^ 64) (hc : c < 2 ^ 64) (hd : d < 2 ^ 64) (x : Nat) (hx : x < 256) (kv : Value) (w : World) :
  Calls Tryz.prog 101 #[nodeV 1 a b c d kv, .int .u8 (x : Int)] w fun e w' => e = .returned (.bool (X3.hasX (.bytes a b c d) x)) ∧ Below w.heap.size w w' := by
 have hX : X3.hasX (.bytes a b c d) x = ((wordAt a b c d x >>> (x % 64)) % 2 == 1) := rfl
 obtain ⟨w0, e0⟩ : ∃ w0, w.alloc (.cells #[.int .i64 1, .int .u64 (a : Int), .int .u64 (b : Int), .int .u64 (c : Int), .int .u64 (d : Int), kv] 46) = w0 := ⟨_, rfl⟩
 have hb0 : Below w.heap.size w w0 := by rw [← e0]; exact (Below.refl _ _).alloc (Nat.le_refl _) _
 have hz0 : w0.heap[w.heap.size]? = some (.cells #[.int .i64 1, .int .u64 (a : Int), .int .u64 (b : Int), .int .u64 (c : Int), .int .u64 (d : Int), kv] 46 (0, 0)) := by rw [← e0]; exact new_block _ _
 have hwd : wordAt a b c d x < 2 ^ 64 := wordAt_lt ha hb hc hd x
 have px : w0.cell? ⟨w.heap.size, 1 + x / 64, none⟩ = some (.int .u64 ((wordAt a b c d x : Nat) : Int)) := by
  rw [Lib.cell_of_heap hz0]
  unfold wordAt
  by_cases h1 : x < 64
  ·rw [if_pos h1, show 1 + x / 64 = 1 by omega]; rfl
  ·by_cases h2 : x < 128
   ·rw [if_neg h1, if_pos h2, show 1 + x / 64 = 2 by omega]; rfl
   ·by_cases h3 : x < 192
    ·rw [if_neg h1, if_neg h2, if_pos h3, show 1 + x / 64 = 3 by omega]; rfl
    ·rw [if_neg h1, if_neg h2, if_neg h3, show 1 + x / 64 = 4 by omega]; rfl
 rw [hX]
 clear hX
 generalize wordAt a b c d x = wd at *
 obtain ⟨p0, p1, p2, p3, p4, p5⟩ := cells6 hz0
 go_enter Tryz.func101, Tryz.ntmps101
 go_wp2_with fail
 have hq : bits BinOp.and IntKind.u64 ((wd : Int) / 2 ^ (x % 64)) 1 = (((wd >>> (x % 64)) % 2 : Nat) : Int) := by
  have e1 : ((wd : Int) / 2 ^ (x % 64)) = ((wd >>> (x % 64) : Nat) : Int) := by rw [Nat.shiftRight_eq_div_pow]; simp
  have hlt : wd >>> (x % 64) < 18446744073709551616 := by rw [Nat.shiftRight_eq_div_pow]; exact Nat.lt_of_le_of_lt (Nat.div_le_self _ _) hwd
  have := bits_and_u64_nat (wd >>> (x % 64)) 1 hlt (by decide)
  rw [e1]
  rw [Nat.and_one_is_mod] at this
  exact this
 have hv : ((((wd >>> (x % 64)) % 2 : Nat) : Int) == 1) = ((wd >>> (x % 64)) % 2 == 1) := by
  generalize (wd >>> (x % 64)) % 2 = q
  rw [Bool.eq_iff_iff, beq_iff_eq, beq_iff_eq]; omega
 rw [hq, hv]
 go_ret
 exact ⟨rfl, hb0⟩
theorem has_any {S : Nat → Prop} {w0 : World} {r : X3.RX} {v : Value} (h : RepS S w0 r v) (x : Nat) (hx : x < 256) (w : World) :
  Calls Tryz.prog 101 #[v, .int .u8 (x : Int)] w fun e w' => e = .returned (.bool (X3.hasX r x)) ∧ Below w.heap.size w w' := by
 cases h with
 | empty => exact has_no 0 0 0 0 0 _ x (by decide) w
 | bytes a b c d ha hb hc hd => exact has_bytes a b c d ha hb hc hd x hx _ w
 | cat l g cap _ _ _ _ _ => exact has_no 2 0 0 0 0 _ x (by decide) w
 | alt l g cap _ _ _ _ _ => exact has_no 3 0 0 0 0 _ x (by decide) w
 | star r g cap _ _ _ _ => exact has_no 4 0 0 0 0 _ x (by decide) w
end Go.Proofs.YtochckefnjobhaaGreatDoor
