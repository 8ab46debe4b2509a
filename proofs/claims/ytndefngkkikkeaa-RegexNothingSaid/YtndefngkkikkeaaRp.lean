/- regex's reader: a way, given what reads ways. -/
import Derived.Test.YtndefngkkikkeaaRo
namespace Go.Proofs.Ytndefngkkikkeaa
open Go Go.RowKit Go.Lib
set_option linter.unusedVariables false
set_option linter.unusedSimpArgs false

/-- A row of one. -/
theorem row_one {B : Nat} {w' : World} {r : X3.RX} {ka kx ky kz ku : Int} {kv : Value} {g : Nat} (hB : B ≤ g) (hR : RepS (fun x => B ≤ x ∧ x ≠ g) w' r (nodeV ka kx ky kz ku kv))
    (hg : w'.heap[g]? = some (.cells #[.int .i64 ka, .int .u64 kx, .int .u64 ky, .int .u64 kz, .int .u64 ku, kv] 28 (0, 0))) : RowOf B w' (.slice (some ⟨g, 0, none⟩) 1 1) [r] := by
  refine ⟨[nodeV ka kx ky kz ku kv], .cons _ _ _ _ (hR.monoS (fun x hx _ => ⟨hx.1, fun e => hx.2 (Option.some.inj e)⟩)) .nil, rfl, .inr ⟨g, 1, _, rfl, hB, hg, Nat.le_refl _, by decide, rfl, rfl⟩⟩

theorem endW_at {s : ByteArray} {i : Nat} (hi : i < s.size) : X3.endW (LL s) i = decide ((s[i]'hi).toNat = 124 ∨ (s[i]'hi).toNat = 41) := by
  unfold X3.endW; rw [ll_at hi]
theorem endW_end (s : ByteArray) : X3.endW (LL s) s.size = true := by
  unfold X3.endW; rw [ll_end]

/-- What a round of way's loop begins with. -/
structure WaySt (b : Nat) (s : ByteArray) (w : World) (W : Nat → X3.PR X3.RX) (R : X3.PR (List X3.RX)) (i j : Nat) (L : List X3.RX) (a : Value) (wr : World) : Prop where
  rd : Rd b s j wr
  gr : Gr b w wr
  le : j ≤ s.size
  ge : i ≤ j
  res : wr.heap[w.heap.size]? = some (.cells zero6 28 (0, 0))
  row : RowOf (w.heap.size + 1) wr a L
  few : L.length ≤ j
  goes : ∃ f, s.size - j < f ∧ X3.wayL W (LL s) f j L = R

set_option maxRecDepth 100000 in
set_option maxHeartbeats 8000000 in
theorem way_any (b : Nat) (s : ByteArray) (i : Nat) (w : World) (h : Rd b s i w) (hs : s.size ≤ 1000) (hi : i ≤ s.size) (W : Nat → X3.PR X3.RX)
    (hW : ∀ (w : World) (k : Nat), i < k → Rd b s k w → k ≤ s.size → Calls Try.prog 28 #[.pointer (some ⟨b, 0, none⟩)] w (RP b s w (W k)))
    (hWg : X3.Goes (LL s) W) (hWb : ∀ i r j, i ≤ s.size → W i = .ok r j → r.size ≤ 1000000) :
    Calls Try.prog 40 #[.pointer (some ⟨b, 0, none⟩)] w (RP b s w (X3.wayX W (LL s) i)) := by
  have hbw : b < w.heap.size := (Array.getElem?_eq_some_iff.1 h).1
  have hbn : b ≠ w.heap.size := by omega
  have hne : w.heap.size ≠ b := by omega
  have hsm : s.size ≤ maxLen := by unfold maxLen; omega
  obtain ⟨w0, hw0⟩ : ∃ w0, w0 = w.alloc (.cells zero6 28) := ⟨_, rfl⟩
  have hg0 : Gr b w w0 := by rw [hw0]; exact gr_alloc (Gr.refl b w) _
  have h0 : Rd b s i w0 := by rw [hw0]; exact (Below.heap_alloc _ _ _ hbw).trans h
  have hz0 : w0.heap[w.heap.size]? = some (.cells zero6 28 (0, 0)) := by rw [hw0]; exact new_block _ _
  have hs0 : w0.heap.size = w.heap.size + 1 := by rw [hw0]; simp
  unfold zero6 at hw0
  have hll : (LL s).length = s.size := rfl
  have KP := hid (fun j (w : World) (hj : i ≤ j) (h : Rd b s j w) (hle : j ≤ s.size) => piece_any b s j w h hsm hle W (fun w k hk => hW w k (by omega)) (fun i j r hi hw => (hWg i j r hi hw).2) hWb)
  have HAT := hid (fun j j' r (h : X3.pieceX W (LL s) j = .ok r j') => X3.piece_at hWg h)
  have HRR : Hid (X3.wayX W (LL s) i = (X3.wayL W (LL s) ((LL s).length + 1) i []).bind fun l j => .ok (X3.mkCat l) j) := hid rfl
  generalize X3.wayX W (LL s) i = RR at *
  have hst : WaySt b s w W (X3.wayL W (LL s) ((LL s).length + 1) i []) i i [] (.slice none 0 0) w0 := ⟨h0, hg0, hi, Nat.le_refl _, hz0, RowOf.nil _ _, by simp, ⟨_, by rw [hll]; omega, rfl⟩⟩
  generalize X3.wayL W (LL s) ((LL s).length + 1) i [] = R at *
  have HST := hid hst
  clear hst hW hWg hWb
  go_enter Try.func40, Try.ntmps40
  go_upto_region 1 with fail
  rw [← hw0]
  clear hw0 h0 hg0 hz0
  go_wp2_with fail
  go_loopw [3] (fun a wr => ∃ (j : Nat) (L : List X3.RX), WaySt b s w W R i j L a wr) (fun _ wr => s.size - posOf b wr)
  case atStart => exact ⟨i, [], HST.out⟩
  case round =>
    clear HST
    obtain ⟨j, L, st⟩ := hrel
    obtain ⟨f, hf, hp⟩ := st.goes
    cases f with
    | zero => omega
    | succ f =>
    have HPP := hid hp
    clear hp
    obtain ⟨so, sc, rfl⟩ := st.row.sl
    have ST := hid st
    clear st
    have hLs : L.length ≤ 1000 := by have := ST.out.few; have := ST.out.le; omega
    unfold X3.wayL at HPP
    by_cases hlt : j < s.size
    · have kpk := hid (peek_mid b s j wr ST.out.rd hsm hlt)
      have hE := endW_at hlt
      generalize (s[j]'hlt).toNat = x at *
      by_cases c124 : x = 124
      · subst c124
        have HE : Hid (X3.endW (LL s) j = true) := hid (by rw [hE]; simp)
        rw [HE.out, if_pos rfl] at HPP
        clear hE HE
        go_wp2_with fail
        refine kpk.out.mono ?_
        rintro e w4 ⟨rfl, hb4, hh4⟩
        have hg4 : Gr b wr w4 := gr_below hb4
        have hr4 : Rd b s j w4 := by unfold Rd; rw [hh4]; exact ST.out.rd
        have hG4 : Gr b w w4 := World.grownBy.trans ST.out.gr hg4
        have hres4 := (hg4.block w.heap.size (by have := (Array.getElem?_eq_some_iff.1 ST.out.res).1; omega) (fun e => hne (Option.some.inj e))).trans ST.out.res
        have HRow := hid (ST.out.row.gr (b := b) (by omega) hg4)
        have hRR : RR = .ok (X3.mkCat L) j := by rw [HRR.out, ← HPP.out]; rfl
        subst hRR
        unfold zero6 at hres4
        obtain ⟨n0, n1, n2, n3, n4, n5⟩ := cells6 hres4
        obtain ⟨f0, f1, f2, f3, f4, f5⟩ := frozen6 hres4
        have hjl := ST.out.le
        clear HPP HRR KP HAT
        match L, hLs, HRow with
        | [], _, HRow =>
          skip
          obtain ⟨w8, e8, hz8, hg8, hs8⟩ := six hres4 (.int .i64 0) (.int .u64 0) (.int .u64 0) (.int .u64 0) (.int .u64 0) (.slice none 0 0)
          have hr8 : Rd b s j w8 := (hg8.block b (Array.getElem?_eq_some_iff.1 hr4).1 (fun e => hbn (Option.some.inj e))).trans hr4
          have hG8 : Gr b w w8 := gr_fresh hG4 (Nat.le_refl _) hg8
          have HR8 := hid hr8
          clear hr8
          go_wp2_with fail
          obtain ⟨y0, y1, y2, y3, y4, y5⟩ := cells6 hz8
          refine bodyPost_ret (v := .agg #[.int .i64 0, .int .u64 0, .int .u64 0, .int .u64 0, .int .u64 0, .slice none 0 0]) (by simp [results, Try.results40, go_sem, y0, y1, y2, y3, y4, y5]) rfl ?_
          exact ⟨_, rfl, Rep.empty, HR8.out, hG8, hjl⟩
        | [r], _, HRow =>
          obtain ⟨g, cap, hv, hBg, hgw, hcap, hrep⟩ := HRow.out.shape (by simp)
          obtain ⟨rfl, _, rfl⟩ : so = some ⟨g, 0, none⟩ ∧ True ∧ sc = cap := by injection hv with h1 h2 h3; exact ⟨h1, trivial, h3⟩
          obtain ⟨ka, kx, ky, kz, ku, kv, hR, c0, c1, c2, c3, c4, c5⟩ := RepLS.at_ hrep 0 (by simp)
          obtain ⟨ko, kn, kc, rfl⟩ := hR.slice
          simp only [Nat.zero_add, Nat.zero_mul] at c0 c1 c2 c3 c4 c5
          simp only [List.length_cons, List.length_nil, Nat.zero_add] at hcap
          have HR := hid (show Rep (w.heap.size + 1) w4 r _ from hR)
          clear hR hv hrep
          obtain ⟨w8, e8, hz8, hg8, hs8⟩ := six hres4 (.int .i64 ka) (.int .u64 kx) (.int .u64 ky) (.int .u64 kz) (.int .u64 ku) (.slice ko kn kc)
          have hr8 : Rd b s j w8 := (hg8.block b (Array.getElem?_eq_some_iff.1 hr4).1 (fun e => hbn (Option.some.inj e))).trans hr4
          have hG8 : Gr b w w8 := gr_fresh hG4 (Nat.le_refl _) hg8
          have HR8 := hid hr8
          clear hr8
          go_wp2_with fail
          obtain ⟨y0, y1, y2, y3, y4, y5⟩ := cells6 hz8
          refine bodyPost_ret (v := .agg #[.int .i64 ka, .int .u64 kx, .int .u64 ky, .int .u64 kz, .int .u64 ku, .slice ko kn kc]) (by simp [results, Try.results40, go_sem, y0, y1, y2, y3, y4, y5]) rfl ?_
          exact ⟨_, rfl, (HR.out.kept (keep_gr (b := w.heap.size) (by omega) hg8)).mono (by omega), HR8.out, hG8, hjl⟩
        | r1 :: r2 :: L, hLs, HRow =>
          obtain ⟨g, cap, hv, hBg, hgw, hcap, hrep⟩ := HRow.out.shape (by simp)
          obtain ⟨rfl, _, rfl⟩ : so = some ⟨g, 0, none⟩ ∧ True ∧ sc = cap := by injection hv with h1 h2 h3; exact ⟨h1, trivial, h3⟩
          have HR := hid (show Rep (w.heap.size + 1) w4 (.cat (r1 :: r2 :: L)) (nodeV 2 0 0 0 0 (.slice (some ⟨g, 0, none⟩) (r1 :: r2 :: L).length sc)) from .cat _ g sc hrep hcap hBg hgw (by simp))
          clear hv hrep
          have t0 : (((r1 :: r2 :: L).length : Int) == 0) = false := by simp; omega
          have t1 : (((r1 :: r2 :: L).length : Int) == 1) = false := by simp; omega
          generalize (r1 :: r2 :: L).length = n at *
          obtain ⟨w8, e8, hz8, hg8, hs8⟩ := six hres4 (.int .i64 2) (.int .u64 0) (.int .u64 0) (.int .u64 0) (.int .u64 0) (.slice (some ⟨g, 0, none⟩) n sc)
          have hr8 : Rd b s j w8 := (hg8.block b (Array.getElem?_eq_some_iff.1 hr4).1 (fun e => hbn (Option.some.inj e))).trans hr4
          have hG8 : Gr b w w8 := gr_fresh hG4 (Nat.le_refl _) hg8
          have HR8 := hid hr8
          clear hr8
          go_wp2_with fail
          obtain ⟨y0, y1, y2, y3, y4, y5⟩ := cells6 hz8
          refine bodyPost_ret (v := .agg #[.int .i64 2, .int .u64 0, .int .u64 0, .int .u64 0, .int .u64 0, .slice (some ⟨g, 0, none⟩) n sc]) (by simp [results, Try.results40, go_sem, y0, y1, y2, y3, y4, y5]) rfl ?_
          exact ⟨_, rfl, (HR.out.kept (keep_gr (b := w.heap.size) (by omega) hg8)).mono (by omega), HR8.out, hG8, hjl⟩
      by_cases c41 : x = 41
      · subst c41
        have HE : Hid (X3.endW (LL s) j = true) := hid (by rw [hE]; simp)
        rw [HE.out, if_pos rfl] at HPP
        clear hE HE
        go_wp2_with fail
        refine kpk.out.mono ?_
        rintro e w4 ⟨rfl, hb4, hh4⟩
        have hg4 : Gr b wr w4 := gr_below hb4
        have hr4 : Rd b s j w4 := by unfold Rd; rw [hh4]; exact ST.out.rd
        have hG4 : Gr b w w4 := World.grownBy.trans ST.out.gr hg4
        have hres4 := (hg4.block w.heap.size (by have := (Array.getElem?_eq_some_iff.1 ST.out.res).1; omega) (fun e => hne (Option.some.inj e))).trans ST.out.res
        have HRow := hid (ST.out.row.gr (b := b) (by omega) hg4)
        have hRR : RR = .ok (X3.mkCat L) j := by rw [HRR.out, ← HPP.out]; rfl
        subst hRR
        unfold zero6 at hres4
        obtain ⟨n0, n1, n2, n3, n4, n5⟩ := cells6 hres4
        obtain ⟨f0, f1, f2, f3, f4, f5⟩ := frozen6 hres4
        have hjl := ST.out.le
        clear HPP HRR KP HAT
        match L, hLs, HRow with
        | [], _, HRow =>
          skip
          obtain ⟨w8, e8, hz8, hg8, hs8⟩ := six hres4 (.int .i64 0) (.int .u64 0) (.int .u64 0) (.int .u64 0) (.int .u64 0) (.slice none 0 0)
          have hr8 : Rd b s j w8 := (hg8.block b (Array.getElem?_eq_some_iff.1 hr4).1 (fun e => hbn (Option.some.inj e))).trans hr4
          have hG8 : Gr b w w8 := gr_fresh hG4 (Nat.le_refl _) hg8
          have HR8 := hid hr8
          clear hr8
          go_wp2_with fail
          obtain ⟨y0, y1, y2, y3, y4, y5⟩ := cells6 hz8
          refine bodyPost_ret (v := .agg #[.int .i64 0, .int .u64 0, .int .u64 0, .int .u64 0, .int .u64 0, .slice none 0 0]) (by simp [results, Try.results40, go_sem, y0, y1, y2, y3, y4, y5]) rfl ?_
          exact ⟨_, rfl, Rep.empty, HR8.out, hG8, hjl⟩
        | [r], _, HRow =>
          obtain ⟨g, cap, hv, hBg, hgw, hcap, hrep⟩ := HRow.out.shape (by simp)
          obtain ⟨rfl, _, rfl⟩ : so = some ⟨g, 0, none⟩ ∧ True ∧ sc = cap := by injection hv with h1 h2 h3; exact ⟨h1, trivial, h3⟩
          obtain ⟨ka, kx, ky, kz, ku, kv, hR, c0, c1, c2, c3, c4, c5⟩ := RepLS.at_ hrep 0 (by simp)
          obtain ⟨ko, kn, kc, rfl⟩ := hR.slice
          simp only [Nat.zero_add, Nat.zero_mul] at c0 c1 c2 c3 c4 c5
          simp only [List.length_cons, List.length_nil, Nat.zero_add] at hcap
          have HR := hid (show Rep (w.heap.size + 1) w4 r _ from hR)
          clear hR hv hrep
          obtain ⟨w8, e8, hz8, hg8, hs8⟩ := six hres4 (.int .i64 ka) (.int .u64 kx) (.int .u64 ky) (.int .u64 kz) (.int .u64 ku) (.slice ko kn kc)
          have hr8 : Rd b s j w8 := (hg8.block b (Array.getElem?_eq_some_iff.1 hr4).1 (fun e => hbn (Option.some.inj e))).trans hr4
          have hG8 : Gr b w w8 := gr_fresh hG4 (Nat.le_refl _) hg8
          have HR8 := hid hr8
          clear hr8
          go_wp2_with fail
          obtain ⟨y0, y1, y2, y3, y4, y5⟩ := cells6 hz8
          refine bodyPost_ret (v := .agg #[.int .i64 ka, .int .u64 kx, .int .u64 ky, .int .u64 kz, .int .u64 ku, .slice ko kn kc]) (by simp [results, Try.results40, go_sem, y0, y1, y2, y3, y4, y5]) rfl ?_
          exact ⟨_, rfl, (HR.out.kept (keep_gr (b := w.heap.size) (by omega) hg8)).mono (by omega), HR8.out, hG8, hjl⟩
        | r1 :: r2 :: L, hLs, HRow =>
          obtain ⟨g, cap, hv, hBg, hgw, hcap, hrep⟩ := HRow.out.shape (by simp)
          obtain ⟨rfl, _, rfl⟩ : so = some ⟨g, 0, none⟩ ∧ True ∧ sc = cap := by injection hv with h1 h2 h3; exact ⟨h1, trivial, h3⟩
          have HR := hid (show Rep (w.heap.size + 1) w4 (.cat (r1 :: r2 :: L)) (nodeV 2 0 0 0 0 (.slice (some ⟨g, 0, none⟩) (r1 :: r2 :: L).length sc)) from .cat _ g sc hrep hcap hBg hgw (by simp))
          clear hv hrep
          have t0 : (((r1 :: r2 :: L).length : Int) == 0) = false := by simp; omega
          have t1 : (((r1 :: r2 :: L).length : Int) == 1) = false := by simp; omega
          generalize (r1 :: r2 :: L).length = n at *
          obtain ⟨w8, e8, hz8, hg8, hs8⟩ := six hres4 (.int .i64 2) (.int .u64 0) (.int .u64 0) (.int .u64 0) (.int .u64 0) (.slice (some ⟨g, 0, none⟩) n sc)
          have hr8 : Rd b s j w8 := (hg8.block b (Array.getElem?_eq_some_iff.1 hr4).1 (fun e => hbn (Option.some.inj e))).trans hr4
          have hG8 : Gr b w w8 := gr_fresh hG4 (Nat.le_refl _) hg8
          have HR8 := hid hr8
          clear hr8
          go_wp2_with fail
          obtain ⟨y0, y1, y2, y3, y4, y5⟩ := cells6 hz8
          refine bodyPost_ret (v := .agg #[.int .i64 2, .int .u64 0, .int .u64 0, .int .u64 0, .int .u64 0, .slice (some ⟨g, 0, none⟩) n sc]) (by simp [results, Try.results40, go_sem, y0, y1, y2, y3, y4, y5]) rfl ?_
          exact ⟨_, rfl, (HR.out.kept (keep_gr (b := w.heap.size) (by omega) hg8)).mono (by omega), HR8.out, hG8, hjl⟩
      have hEf : X3.endW (LL s) j = false := by rw [hE]; simp [c124, c41]
      rw [hEf] at HPP
      simp only [Bool.false_eq_true, if_false] at HPP
      clear hE hEf
      have n124 : ((x : Int) == 124) = false := by simp; omega
      have n41 : ((x : Int) == 41) = false := by simp; omega
      go_wp2_with fail
      refine kpk.out.mono ?_
      rintro e w4 ⟨rfl, hb4, hh4⟩
      have hg4 : Gr b wr w4 := gr_below hb4
      have hr4 : Rd b s j w4 := by unfold Rd; rw [hh4]; exact ST.out.rd
      have HRow := hid (ST.out.row.below (hb4))
      have hs4 := hb4.size
      have hKr : w.heap.size < wr.heap.size := (Array.getElem?_eq_some_iff.1 ST.out.res).1
      have KP2 := hid (KP.out j w4 ST.out.ge hr4 ST.out.le)
      cases hD : X3.pieceX W (LL s) j with
      | err c =>
        rw [hD] at KP2 HPP
        have hR : R = .err c := HPP.out.symm
        subst hR
        have hRR : RR = .err c := HRR.out
        subst hRR
        go_wp2_with fail
        refine KP2.out.mono ?_
        rintro e w5 ⟨rfl, hg5⟩
        exact ⟨rfl, rfl, World.grownBy.trans ST.out.gr (World.grownBy.trans hg4 hg5)⟩
      | ok r j' =>
        have hat := HAT.out j j' r hD
        rw [hll] at hat
        rw [hD] at KP2 HPP
        replace HPP : Hid (X3.wayL W (LL s) f j' (L ++ [r]) = R) := HPP
        go_wp2_with fail
        refine KP2.out.mono ?_
        rintro e w5 ⟨nv, rfl, hRn, hr5, hg5, hj5⟩
        obtain ⟨ka, kx, ky, kz, ku, ko, kn, kc, rfl⟩ := hRn.shape
        obtain ⟨VS, hreps, hown⟩ := HRow.out.gr (b := b) (by omega) hg5
        have hltb := HRow.out.lt
        obtain ⟨i0, hi, hz0, hz1, hz2⟩ := info_parts info28
        have hs5 := hg5.size
        go_wp2_with (at_builtin; refine wpList_append_own_at _ rfl _ _ 26 rfl (w.heap.size + 1) 28 i0 (.agg zero6) 6 64 Try.underlying26 hi hz0 hz1 hz2 rfl (by decide) _ _ _ rfl (hown.alloc _) ⟨w5.heap.size, 0, none⟩ 1 1 [.int .i64 ka, .int .u64 kx, .int .u64 ky, .int .u64 kz, .int .u64 ku, .slice ko kn kc] rfl rfl ?c1 ?c2 ?c3 ?c4 ?c5 ?_)
        case c1 =>
          intro j v hj
          have := Lib.cell_of_heap (new_block w5 (.cells #[.int .i64 ka, .int .u64 kx, .int .u64 ky, .int .u64 kz, .int .u64 ku, .slice ko kn kc] 28)) j
          rw [show (⟨w5.heap.size, 0, none⟩ : Addr).add j = ⟨w5.heap.size, j, none⟩ by simp [Addr.add]; omega]
          rw [this, ← hj]
          simp
        case c2 => intro v hv; simp at hv; rcases hv with rfl | rfl | rfl | rfl | rfl | rfl <;> rfl
        case c3 => unfold maxLen; omega
        case c4 => omega
        case c5 => simp; omega
        intro v' w6 hown' hgrow hnil hat'
        have hrow6 : RowOf (w.heap.size + 1) w6 v' (L ++ [r]) := row_push hreps hltb (by omega) hRn ((Below.refl _ w5).alloc (Nat.le_refl _) _) hown' hgrow (by rw [World.size_alloc]; exact hat')
        have hgA : Gr b wr w5 := World.grownBy.trans hg4 hg5
        have hb56 : Below (w.heap.size + 1) w5 w6 := ((Below.refl _ w5).alloc (by omega) _).grown hgrow (by simp; omega) (fun q hq => (hltb q hq).1)
        have hG5 : Gr b w w5 := World.grownBy.trans ST.out.gr hgA
        have hG6 : Gr b w w6 := ⟨hb56.os.trans hG5.os, hb56.tape.trans hG5.tape, hb56.output.trans hG5.output, Nat.le_trans hG5.size hb56.size, fun k hk hne => (hb56.block k (by omega)).trans (hG5.block k hk hne)⟩
        have hr6 : Rd b s j' w6 := (hb56.block b (by omega)).trans hr5
        have hres6 := (hb56.block w.heap.size (by omega)).trans ((hgA.block w.heap.size (by omega) (fun e => hne (Option.some.inj e))).trans ST.out.res)
        have hst : WaySt b s w W R i j' (L ++ [r]) v' w6 := ⟨hr6, hG6, hj5, by have := ST.out.ge; omega, hres6, hrow6, by have := ST.out.few; simp; omega, ⟨f, by omega, HPP.out⟩⟩
        have HST := hid hst
        have hrp := ST.out.rd
        clear hst hrow6 hown' hgrow hnil hat' hown hreps hltb HRow
        go_wp2_with fail
        refine ⟨⟨j', _, HST.out⟩, ?_⟩
        show s.size - posOf b w6 < s.size - posOf b wr
        rw [posOf_rd hr6, posOf_rd hrp]
        omega
    · obtain rfl : j = s.size := by have := ST.out.le; omega
      have kpk := hid (peek_end b s wr ST.out.rd hsm)
      rw [endW_end, if_pos rfl] at HPP
      go_wp2_with fail
      refine kpk.out.mono ?_
      rintro e w4 ⟨rfl, hb4, hh4⟩
      have hg4 : Gr b wr w4 := gr_below hb4
      have hr4 : Rd b s s.size w4 := by unfold Rd; rw [hh4]; exact ST.out.rd
      have hG4 : Gr b w w4 := World.grownBy.trans ST.out.gr hg4
      have hres4 := (hg4.block w.heap.size (by have := (Array.getElem?_eq_some_iff.1 ST.out.res).1; omega) (fun e => hne (Option.some.inj e))).trans ST.out.res
      have HRow := hid (ST.out.row.gr (b := b) (by omega) hg4)
      have hRR : RR = .ok (X3.mkCat L) s.size := by rw [HRR.out, ← HPP.out]; rfl
      subst hRR
      unfold zero6 at hres4
      obtain ⟨n0, n1, n2, n3, n4, n5⟩ := cells6 hres4
      obtain ⟨f0, f1, f2, f3, f4, f5⟩ := frozen6 hres4
      have hjl := ST.out.le
      clear HPP HRR KP HAT
      match L, hLs, HRow with
      | [], _, HRow =>
        skip
        obtain ⟨w8, e8, hz8, hg8, hs8⟩ := six hres4 (.int .i64 0) (.int .u64 0) (.int .u64 0) (.int .u64 0) (.int .u64 0) (.slice none 0 0)
        have hr8 : Rd b s s.size w8 := (hg8.block b (Array.getElem?_eq_some_iff.1 hr4).1 (fun e => hbn (Option.some.inj e))).trans hr4
        have hG8 : Gr b w w8 := gr_fresh hG4 (Nat.le_refl _) hg8
        have HR8 := hid hr8
        clear hr8
        go_wp2_with fail
        obtain ⟨y0, y1, y2, y3, y4, y5⟩ := cells6 hz8
        refine bodyPost_ret (v := .agg #[.int .i64 0, .int .u64 0, .int .u64 0, .int .u64 0, .int .u64 0, .slice none 0 0]) (by simp [results, Try.results40, go_sem, y0, y1, y2, y3, y4, y5]) rfl ?_
        exact ⟨_, rfl, Rep.empty, HR8.out, hG8, hjl⟩
      | [r], _, HRow =>
        obtain ⟨g, cap, hv, hBg, hgw, hcap, hrep⟩ := HRow.out.shape (by simp)
        obtain ⟨rfl, _, rfl⟩ : so = some ⟨g, 0, none⟩ ∧ True ∧ sc = cap := by injection hv with h1 h2 h3; exact ⟨h1, trivial, h3⟩
        obtain ⟨ka, kx, ky, kz, ku, kv, hR, c0, c1, c2, c3, c4, c5⟩ := RepLS.at_ hrep 0 (by simp)
        obtain ⟨ko, kn, kc, rfl⟩ := hR.slice
        simp only [Nat.zero_add, Nat.zero_mul] at c0 c1 c2 c3 c4 c5
        simp only [List.length_cons, List.length_nil, Nat.zero_add] at hcap
        have HR := hid (show Rep (w.heap.size + 1) w4 r _ from hR)
        clear hR hv hrep
        obtain ⟨w8, e8, hz8, hg8, hs8⟩ := six hres4 (.int .i64 ka) (.int .u64 kx) (.int .u64 ky) (.int .u64 kz) (.int .u64 ku) (.slice ko kn kc)
        have hr8 : Rd b s s.size w8 := (hg8.block b (Array.getElem?_eq_some_iff.1 hr4).1 (fun e => hbn (Option.some.inj e))).trans hr4
        have hG8 : Gr b w w8 := gr_fresh hG4 (Nat.le_refl _) hg8
        have HR8 := hid hr8
        clear hr8
        go_wp2_with fail
        obtain ⟨y0, y1, y2, y3, y4, y5⟩ := cells6 hz8
        refine bodyPost_ret (v := .agg #[.int .i64 ka, .int .u64 kx, .int .u64 ky, .int .u64 kz, .int .u64 ku, .slice ko kn kc]) (by simp [results, Try.results40, go_sem, y0, y1, y2, y3, y4, y5]) rfl ?_
        exact ⟨_, rfl, (HR.out.kept (keep_gr (b := w.heap.size) (by omega) hg8)).mono (by omega), HR8.out, hG8, hjl⟩
      | r1 :: r2 :: L, hLs, HRow =>
        obtain ⟨g, cap, hv, hBg, hgw, hcap, hrep⟩ := HRow.out.shape (by simp)
        obtain ⟨rfl, _, rfl⟩ : so = some ⟨g, 0, none⟩ ∧ True ∧ sc = cap := by injection hv with h1 h2 h3; exact ⟨h1, trivial, h3⟩
        have HR := hid (show Rep (w.heap.size + 1) w4 (.cat (r1 :: r2 :: L)) (nodeV 2 0 0 0 0 (.slice (some ⟨g, 0, none⟩) (r1 :: r2 :: L).length sc)) from .cat _ g sc hrep hcap hBg hgw (by simp))
        clear hv hrep
        have t0 : (((r1 :: r2 :: L).length : Int) == 0) = false := by simp; omega
        have t1 : (((r1 :: r2 :: L).length : Int) == 1) = false := by simp; omega
        generalize (r1 :: r2 :: L).length = n at *
        obtain ⟨w8, e8, hz8, hg8, hs8⟩ := six hres4 (.int .i64 2) (.int .u64 0) (.int .u64 0) (.int .u64 0) (.int .u64 0) (.slice (some ⟨g, 0, none⟩) n sc)
        have hr8 : Rd b s s.size w8 := (hg8.block b (Array.getElem?_eq_some_iff.1 hr4).1 (fun e => hbn (Option.some.inj e))).trans hr4
        have hG8 : Gr b w w8 := gr_fresh hG4 (Nat.le_refl _) hg8
        have HR8 := hid hr8
        clear hr8
        go_wp2_with fail
        obtain ⟨y0, y1, y2, y3, y4, y5⟩ := cells6 hz8
        refine bodyPost_ret (v := .agg #[.int .i64 2, .int .u64 0, .int .u64 0, .int .u64 0, .int .u64 0, .slice (some ⟨g, 0, none⟩) n sc]) (by simp [results, Try.results40, go_sem, y0, y1, y2, y3, y4, y5]) rfl ?_
        exact ⟨_, rfl, (HR.out.kept (keep_gr (b := w.heap.size) (by omega) hg8)).mono (by omega), HR8.out, hG8, hjl⟩

end Go.Proofs.Ytndefngkkikkeaa
