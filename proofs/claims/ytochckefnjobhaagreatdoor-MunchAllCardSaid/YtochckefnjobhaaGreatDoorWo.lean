/- works07: the document's example. -/
import Derived.Test.YtochckefnjobhaaGreatDoorWm
namespace Go.Proofs.YtochckefnjobhaaGreatDoor
open Go Go.RowKit Go.Lib
open X5 (Aut)
set_option linter.unusedVariables false
set_option linter.unusedSimpArgs false
theorem ex7_of {w : World} {v : Value} (h : TextsAt w v [⟨#[91, 97, 45, 122, 93, 43]⟩, ⟨#[105, 102]⟩]) {Bt : Nat} (ht : Tab Bt w) (hBt : Bt ≤ w.heap.size) :
  Calls Tryz.prog 18 #[v] w fun e w' => ∃ dd M, e = .returned (.tuple #[.agg dd, .int .i64 0]) ∧ Lies M dd w' ∧ Ex7 M ∧ Below w.heap.size w w' := by
 refine (texts_any _ w v h (by simp) ht hBt).mono fun e w' hq => ?_
 obtain ⟨hb, hm⟩ := hq
 rw [ex7_parses] at hm
 rcases hm with ⟨hm | hm, _⟩ | ⟨D, SS, A0, Bk, M, st, nv, tv, _, h0, hS, _, hv, hblk, hj, rfl, hd⟩
 ·exact absurd hm ex7_few
 ·exact absurd hm ex7_big
 refine ⟨_, M, rfl, ⟨nv, tv, rfl, hd.at_⟩, fun s R hR => ?_, hb⟩
 rw [X6.IsL.run hv (by rw [hS.cls, List.length_map]; exact (cls_good _).1) ⟨Bk, st, hblk, hj⟩ s]
 exact sets_run hS h0 s hR
theorem over_one {w : World} {g : Nat} {p q : Int} (h : w.heap[g]? = some (.cells #[.int .i64 p, .int .i64 q] 80 (0, 0))) : OverAt w (.slice (some ⟨g, 0, none⟩) 1 1) [(p, q)] :=
 ⟨_, 1, rfl, fun i hi => by
  have : i = 0 := by simpa using hi
  subst this
  exact ⟨g, 0, rfl, (Array.getElem?_eq_some_iff.1 h).1, Lib.cell_of_heap h 0, Lib.cell_of_heap h 1⟩⟩
theorem over_none (w : World) : OverAt w (.slice none 0 0) [] := ⟨none, 0, rfl, fun i hi => by simp at hi⟩
set_option maxRecDepth 100000 in
set_option maxHeartbeats 16000000 in
theorem works07 (w : World) {Bt : Nat} (ht : Tab Bt w) (hBt : Bt ≤ w.heap.size) : Calls Tryz.prog 26 #[] w fun e w' => e = .returned (.bool true) ∧ Below w.heap.size w w' := by
 obtain ⟨w1, e1⟩ : ∃ w1, w.alloc (.cells #[.string { data := #[91, 97, 45, 122, 93, 43] }, .string { data := #[105, 102] }] 9) = w1 := ⟨_, rfl⟩
 obtain ⟨hT, hb1⟩ := two_texts (s := { data := #[91, 97, 45, 122, 93, 43] }) (t := { data := #[105, 102] }) (by decide) (by decide) e1
 have HB1 := hid hb1
 have K := hid (ex7_of hT (ht.on (hb1.mono hBt)) (Nat.le_trans hBt hb1.size))
 clear hT hb1 ht
 go_enter Tryz.func26, Tryz.ntmps26
 go_wp2_with fail
 clear e1
 refine K.out.mono ?_
 rintro e w2 ⟨dd, M, rfl, hL, hE, hb⟩
 clear K
 have HE := hid hE
 have HSZ := hid hL.sz
 have HN2 := hid (new_block w2 (.cells dvz 26))
 obtain ⟨w3, e3, hx, hbs, hss⟩ := kept_new w2 dd
 have HB3 := hid (HB1.out.trans ((hb.trans (hbs.mono hb.size)).mono HB1.out.size))
 have hL3 := hL.below hbs
 obtain ⟨w4, e4⟩ : ∃ w4, w3.alloc (.cells #[.int .i64 1, .int .i64 0] 80) = w4 := ⟨_, rfl⟩
 have hb4 : Below w3.heap.size w3 w4 := by rw [← e4]; exact (Below.refl _ _).alloc (Nat.le_refl _) _
 have n4 : w4.heap[w3.heap.size]? = some (.cells #[.int .i64 1, .int .i64 0] 80 (0, 0)) := by rw [← e4]; exact new_block _ _
 have HB4 := hid (HB3.out.trans (hb4.mono HB3.out.size))
 have HL4 := hid (hL3.below hb4)
 have HX4 := hid (show w4.heap[w2.heap.size]? = some (.cells dd 26 (0, 0)) from hx.below hb4)
 have HO4 := hid (over_one n4)
 have K := pick_any w4 HL4.out { data := #[105, 102] } (by decide) 0 3 (by decide) _ _ HO4.out (by simp)
 rw [show LL ({ data := #[105, 102] } : ByteArray) = [105, 102] from rfl, pick_if HE.out] at K
 have K := hid K
 clear hL hE hb hx hbs hss hL3 hb4 n4
 go_wp2_with (first | (with_reducible refine wpList_made30 rfl rfl ?_) | (with_reducible refine wpList_store30 rfl (.tmp 1) (.tmp 15) rfl w2.heap.size rfl dvz dd HN2.out rfl dvz_size HSZ.out.1 HSZ.out.2.1 ?_))
 refine wp_load30' (.tmp 1) rfl w2.heap.size rfl dd HX4.out HSZ.out.1 ?_
 go_wp2_with fail
 clear e3 e4
 refine K.out.mono ?_
 rintro e w5 ⟨rfl, hb⟩
 have HB5 := hid (HB4.out.trans (hb.mono HB4.out.size))
 have HL5 := hid (HL4.out.below hb)
 have HX5 := hid ((hb.block _ (Array.getElem?_eq_some_iff.1 HX4.out).1).trans HX4.out)
 have HO5 := hid (HO4.out.below hb)
 have K := pick_any w5 HL5.out { data := #[105, 102, 102] } (by decide) 0 3 (by decide) _ _ HO5.out (by simp)
 rw [show LL ({ data := #[105, 102, 102] } : ByteArray) = [105, 102, 102] from rfl, pick_iff HE.out] at K
 have K := hid K
 clear hb
 go_wp2_with fail
 refine wp_load30' (.tmp 1) rfl w2.heap.size rfl dd HX5.out HSZ.out.1 ?_
 go_wp2_with fail
 refine K.out.mono ?_
 rintro e w6 ⟨rfl, hb⟩
 have HB6 := hid (HB5.out.trans (hb.mono HB5.out.size))
 have HL6 := hid (HL5.out.below hb)
 have HX6 := hid ((hb.block _ (Array.getElem?_eq_some_iff.1 HX5.out).1).trans HX5.out)
 have HO6 := hid (HO5.out.below hb)
 have K := pick_any w6 HL6.out { data := #[105, 102] } (by decide) 0 3 (by decide) _ _ (over_none w6) (by simp)
 rw [show LL ({ data := #[105, 102] } : ByteArray) = [105, 102] from rfl, pick_nil HE.out] at K
 have K := hid K
 clear hb
 go_wp2_with fail
 refine wp_load30' (.tmp 1) rfl w2.heap.size rfl dd HX6.out HSZ.out.1 ?_
 go_wp2_with fail
 refine K.out.mono ?_
 rintro e w7 ⟨rfl, hb⟩
 have HB7 := hid (HB6.out.trans (hb.mono HB6.out.size))
 have HL7 := hid (HL6.out.below hb)
 have HX7 := hid ((hb.block _ (Array.getElem?_eq_some_iff.1 HX6.out).1).trans HX6.out)
 have HO7 := hid (HO6.out.below hb)
 have K := all_any w7 HL7.out { data := #[105, 102] } (by decide) 3 (by decide) _ _ HO7.out (by simp)
 rw [show LL ({ data := #[105, 102] } : ByteArray) = [105, 102] from rfl, all_if HE.out] at K
 have K := hid K
 clear hb
 go_wp2_with fail
 refine wp_load30' (.tmp 1) rfl w2.heap.size rfl dd HX7.out HSZ.out.1 ?_
 go_wp2_with fail
 refine K.out.mono ?_
 rintro e w8 ⟨o8, c8, rfl, hr8, hb⟩
 have HB8 := hid (HB7.out.trans (hb.mono HB7.out.size))
 have HL8 := hid (HL7.out.below hb)
 have HX8 := hid ((hb.block _ (Array.getElem?_eq_some_iff.1 HX7.out).1).trans HX7.out)
 have HO8 := hid (HO7.out.below hb)
 obtain ⟨g8, rfl, d0, d1⟩ : ∃ g8, o8 = some ⟨g8, 0, none⟩ ∧ w8.cell? ⟨g8, 0, none⟩ = some (.int .u64 2) ∧ w8.cell? ⟨g8, 1, none⟩ = some (.int .i64 2) := by
  rcases hr8.2 with ⟨h1, h0⟩ | ⟨g, cap, cur, h1, hB, hg, h2, h3, h4, h5⟩
  ·cases h0
  ·injection h1 with h1
   subst h1
   have h6 : cur.toList.take 2 = [.int .u64 2, .int .i64 2] := h5
   refine ⟨g, rfl, ?_, ?_⟩
   ·rw [Lib.cell_of_heap hg, ← Array.getElem?_toList, ← List.getElem?_take_of_lt (show 0 < 2 by decide), h6]; rfl
   ·rw [Lib.cell_of_heap hg, ← Array.getElem?_toList, ← List.getElem?_take_of_lt (show 1 < 2 by decide), h6]; rfl
 have K := win_any 3 (by decide) _ _ w8 HO8.out (by simp)
 rw [win_ex] at K
 have K := hid K
 clear hb hr8
 go_wp2_with fail
 refine K.out.mono ?_
 rintro e w9 ⟨rfl, hb⟩
 have HB9 := hid (HB8.out.trans (hb.mono HB8.out.size))
 have HX9 := hid ((hb.block _ (Array.getElem?_eq_some_iff.1 HX8.out).1).trans HX8.out)
 have K := longest_any w9 (HL8.out.below hb) { data := #[105, 102, 33] } (by decide) 0 1 (by decide)
 rw [show LL ({ data := #[105, 102, 33] } : ByteArray) = [105, 102, 33] from rfl, lg_no HE.out] at K
 have K := hid K
 clear hb d0 d1
 go_wp2_with fail
 refine wp_load30' (.tmp 1) rfl w2.heap.size rfl dd HX9.out HSZ.out.1 ?_
 go_wp2_with fail
 refine K.out.mono ?_
 rintro e w10 ⟨rfl, hb⟩
 have HB10 := hid (HB9.out.trans (hb.mono HB9.out.size))
 clear hb
 go_wp2_with fail
 go_ret
 exact ⟨rfl, HB10.out⟩
end Go.Proofs.YtochckefnjobhaaGreatDoor
namespace Go.Proofs.YtochckefnjobhaaGreatDoor
open Go Go.RowKit Go.Lib Go.WideShapes Go.ChangeShapes Go.Deep
open X5 (Aut)
set_option linter.unusedVariables false
set_option linter.unusedSimpArgs false
section
variable {H : Type} {enc : TypeId × Value → H} {w : World} {base : Nat} {spare : Nat → Bool} {held : Bool}
set_option maxRecDepth 100000 in
theorem open_over {r : Reach} {b0 : Nat} {v : Value} {d : DataW H} {ps : List MemPlace} (hval : Value.okWide Tryz.prog w r b0 58 v) (h : DataW.Trod enc Tryz.prog w base spare held 58 v d ps) :
  ∃ l, OverAt w v l ∧ l.length ≤ maxLen := by
 obtain ⟨A, ln, cp, rfl⟩ := okWide_slice Tryz.underlying58 hval
 obtain ⟨fuel, hf⟩ := h
 obtain ⟨a, len, cap, V, hv, hl, hm, hat, hel, _⟩ := open_block Tryz.underlying58 (by kernel_rfl : Tryz.prog.cellsOf 80 = 2) (by omega) hf
 injection hv with h1 h2 h3
 subst h1 h2 h3
 obtain ⟨f, hf2⟩ := choose_lt (α := Int × Int) (n := ln) (p := fun i z => V i 0 = .int .i64 z.1 ∧ V i 1 = .int .i64 z.2) (fun i hi => by
  obtain ⟨n, y, hy⟩ := hel i hi
  obtain ⟨cx, cn, _, _, _, clen, cg⟩ := DataW.trod_array Tryz.underlying80 hy
  have g0 := cg 0 (by decide)
  have g1 := cg 1 (by decide)
  rw [show Tryz.prog.cellsOf 3 = 1 from by kernel_rfl, show (List.range 2).map (V i) = [V i 0, V i 1] from rfl] at g0 g1
  rw [List.getElem?_eq_getElem (by omega)] at g0 g1
  obtain ⟨z0, hz0, _, _⟩ := DataW.trod_int Tryz.underlying3 g0
  obtain ⟨z1, hz1, _, _⟩ := DataW.trod_int Tryz.underlying3 g1
  have k0 : [V i 0] = [.int .i64 z0] := hz0
  have k1 : [V i 1] = [.int .i64 z1] := hz1
  simp only [List.cons.injEq, and_true] at k0 k1
  exact ⟨(z0, z1), k0, k1⟩)
 have hlen : ((List.range ln).map f).length = ln := by simp
 refine ⟨(List.range ln).map f, ⟨A, cp, by rw [hlen], fun i hi => ?_⟩, by rw [hlen]; omega⟩
 have hi' : i < ln := by simpa using hi
 obtain ⟨b, off, rfl, hc⟩ := hat (by omega)
 have c0 := hc i hi' 0 (by omega)
 have c1 := hc i hi' 1 (by omega)
 rw [(hf2 i hi').1, Nat.add_zero] at c0
 rw [(hf2 i hi').2] at c1
 have e : ((List.range ln).map f)[i] = f i := by simp
 rw [e]
 exact ⟨b, off, rfl, block_lt c0, c0, c1⟩
end
set_option maxRecDepth 100000 in
set_option maxHeartbeats 4000000 in
theorem few_any {D : Aut} {dd : Array Value} (w : World) (hL : Lies D dd w) (s : ByteArray) (hs : s.size ≤ maxLen) (o : Option Addr) (n c : Nat) (hn : n ≤ maxLen) :
  Calls Tryz.prog 27 #[.agg dd, .string s, .slice o n c] w fun e w' => ∃ b : Bool, e = .returned (.bool b) ∧ (b = true → X6.Lit D ∧ s.size ≤ 40 ∧ n ≤ 40) ∧ Below w.heap.size w w' := by
 obtain ⟨w1, e1, hx1, hb1⟩ := boxed w dd
 have HX := hid (show w1.heap[w.heap.size]? = some (.cells dd 26 (0, 0)) from hx1)
 have HSZ := hid hL.sz
 have HB1 := hid hb1
 have K := hid (little_at (hL.below hb1))
 unfold maxLen at hs hn
 clear hL hx1 hb1
 go_enter Tryz.func27, Tryz.ntmps27
 go_wp2_with fail
 refine wp_load30' (.tmp 3) rfl w.heap.size rfl dd HX.out HSZ.out.1 ?_
 go_wp2_with fail
 clear e1
 refine K.out.mono ?_
 rintro e w2 ⟨b, rfl, hl, hb⟩
 have HB := hid (HB1.out.trans (hb.mono HB1.out.size))
 have HLL := hid hl
 clear hb hl K
 cases b with
 | false =>
  go_wp2_with fail
  go_ret
  exact ⟨false, rfl, (fun h => by cases h), HB.out⟩
 | true =>
  by_cases h1 : (s.size : Int) ≤ 40
  ·by_cases h2 : (n : Int) ≤ 40
   ·have g1 : decide ((s.size : Int) ≤ 40) = true := decide_eq_true h1
    have g2 : decide ((n : Int) ≤ 40) = true := decide_eq_true h2
    go_wp2_with fail
    go_ret
    exact ⟨true, rfl, (fun _ => ⟨HLL.out.1 (by first | trivial | rfl), by omega, by omega⟩), HB.out⟩
   ·have g1 : decide ((s.size : Int) ≤ 40) = true := decide_eq_true h1
    have g2 : decide ((n : Int) ≤ 40) = false := decide_eq_false h2
    go_wp2_with fail
    go_ret
    exact ⟨false, rfl, (fun h => by cases h), HB.out⟩
  ·have g1 : decide ((s.size : Int) ≤ 40) = false := decide_eq_false h1
   go_wp2_with fail
   go_ret
   exact ⟨false, rfl, (fun h => by cases h), HB.out⟩
end Go.Proofs.YtochckefnjobhaaGreatDoor
