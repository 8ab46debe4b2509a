/- regex's reader: ways. -/
import Derived.Test.YtndefngkkikkeaaRp
namespace Go.Proofs.Ytndefngkkikkeaa
open Go Go.RowKit Go.Lib
set_option linter.unusedVariables false
set_option linter.unusedSimpArgs false

/-- What a round of ways' loop begins with. -/
structure WaysSt (b : Nat) (s : ByteArray) (w : World) (W : Nat → X3.PR X3.RX) (R : X3.PR (List X3.RX)) (i j : Nat) (L : List X3.RX) (a : Value) (wr : World) : Prop where
  rd : Rd b s j wr
  gr : Gr b w wr
  le : j ≤ s.size
  ge : i ≤ j
  res : wr.heap[w.heap.size]? = some (.cells zero6 28 (0, 0))
  row : RowOf (w.heap.size + 1) wr a L
  few : L.length ≤ j + 1
  some_ : L ≠ []
  goes : ∃ f, s.size - j ≤ f ∧ (if X3.passed (LL s) j 124 then X3.waysL W (LL s) f (j + 1) L else .ok L j) = R

set_option maxRecDepth 100000 in
set_option maxHeartbeats 8000000 in
theorem ways_step (b : Nat) (s : ByteArray) (i : Nat) (w : World) (h : Rd b s i w) (hs : s.size ≤ 1000) (hi : i ≤ s.size) (W : Nat → X3.PR X3.RX)
    (hW : ∀ (w : World) (k : Nat), i < k → Rd b s k w → k ≤ s.size → Calls Try.prog 28 #[.pointer (some ⟨b, 0, none⟩)] w (RP b s w (W k)))
    (hWg : X3.Goes (LL s) W) (hWb : ∀ i r j, i ≤ s.size → W i = .ok r j → r.size ≤ 1000000) :
    Calls Try.prog 28 #[.pointer (some ⟨b, 0, none⟩)] w (RP b s w ((X3.waysL W (LL s) ((LL s).length + 1) i []).bind fun l j => .ok (X3.mkAlt l) j)) := by
  have hbw : b < w.heap.size := (Array.getElem?_eq_some_iff.1 h).1
  have hbn : b ≠ w.heap.size := by omega
  have hne : w.heap.size ≠ b := by omega
  have hsm : s.size ≤ maxLen := by unfold maxLen; omega
  obtain ⟨w0, hw0⟩ : ∃ w0, w0 = w.alloc (.cells zero6 28) := ⟨_, rfl⟩
  have hg0 : Gr b w w0 := by rw [hw0]; exact gr_alloc (Gr.refl b w) _
  have h0 : Rd b s i w0 := by rw [hw0]; exact (Below.heap_alloc _ _ _ hbw).trans h
  have hz0 : w0.heap[w.heap.size]? = some (.cells zero6 28 (0, 0)) := by rw [hw0]; exact new_block _ _
  have hs0 : w0.heap.size = w.heap.size + 1 := by rw [hw0]; simp
  unfold zero6 at hw0
  have hll : (LL s).length = s.size := rfl
  have KW := hid (fun j (w : World) (hj : i ≤ j) (h : Rd b s j w) (hle : j ≤ s.size) => way_any b s j w h hs hle W (fun w k hk => hW w k (by omega)) hWg hWb)
  have HAT := hid (fun j j' r (hj : j ≤ s.size) (h : X3.wayX W (LL s) j = .ok r j') => X3.way_at hWg (by rw [hll]; exact hj) h)
  obtain ⟨RR, HRR⟩ : ∃ RR, Hid (RR = (X3.waysL W (LL s) ((LL s).length + 1) i []).bind fun l j => .ok (X3.mkAlt l) j) := ⟨_, hid rfl⟩
  rw [← HRR.out]
  have HUN : Hid (X3.waysL W (LL s) ((LL s).length + 1) i [] = (X3.wayX W (LL s) i).bind fun r j => if X3.passed (LL s) j 124 then X3.waysL W (LL s) (LL s).length (j + 1) ([] ++ [r]) else .ok ([] ++ [r]) j) := hid rfl
  generalize X3.waysL W (LL s) ((LL s).length + 1) i [] = R at *
  have KW0 := hid (KW.out i w0 (Nat.le_refl _) h0 hi)
  clear hW hWg hWb
  cases hA : X3.wayX W (LL s) i with
  | err c =>
    rw [hA] at HUN KW0
    have hR : R = .err c := HUN.out
    subst hR
    have hRR : RR = .err c := HRR.out
    subst hRR
    go_enter Try.func28, Try.ntmps28
    go_upto_region 1 with fail
    rw [← hw0]
    clear hw0
    go_wp2_with fail
    refine KW0.out.mono ?_
    rintro e w1 ⟨rfl, hg⟩
    exact ⟨rfl, rfl, World.grownBy.trans hg0 hg⟩
  | ok r j =>
    have hat := HAT.out i j r hi hA
    rw [hll] at hat
    rw [hA] at HUN KW0
    replace HUN : Hid (R = if X3.passed (LL s) j 124 then X3.waysL W (LL s) (LL s).length (j + 1) [r] else .ok [r] j) := HUN
    go_enter Try.func28, Try.ntmps28
    go_upto_region 1 with fail
    rw [← hw0]
    clear hw0
    go_wp2_with fail
    refine KW0.out.mono ?_
    rintro e w1 ⟨v, rfl, hR, hr, hg, hj⟩
    obtain ⟨ka, kx, ky, kz, ku, ko, kn, kc, rfl⟩ := hR.shape
    have hG1 : Gr b w w1 := World.grownBy.trans hg0 hg
    have hs1 : w.heap.size + 1 ≤ w1.heap.size := by have := hg.size; omega
    have hz1 := (hg.block w.heap.size (by omega) (fun e => hne (Option.some.inj e))).trans hz0
    obtain ⟨w2, e2⟩ : ∃ w2, w1.alloc (.cells #[.int .i64 ka, .int .u64 kx, .int .u64 ky, .int .u64 kz, .int .u64 ku, .slice ko kn kc] 28) = w2 := ⟨_, rfl⟩
    have hb2 : Below w1.heap.size w1 w2 := by rw [← e2]; exact (Below.refl _ _).alloc (Nat.le_refl _) _
    have hv2 : w2.heap[w1.heap.size]? = some (.cells #[.int .i64 ka, .int .u64 kx, .int .u64 ky, .int .u64 kz, .int .u64 ku, .slice ko kn kc] 28 (0, 0)) := by rw [← e2]; exact new_block _ _
    have hst : WaysSt b s w W R i j [r] (.slice (some ⟨w1.heap.size, 0, none⟩) 1 1) w2 :=
      ⟨(hb2.block b (by omega)).trans hr, World.grownBy.trans hG1 (gr_below hb2), hj, hat.1, (hb2.block _ (by omega)).trans hz1,
        row_one (by omega) (RepS.kept (keepS_below hb2) (hR.monoS (fun x hx hl => ⟨by have : w0.heap.size ≤ x := hx; omega, by omega⟩))) hv2, by simp, by simp, ⟨_, by rw [hll]; omega, HUN.out.symm⟩⟩
    have HST := hid hst
    have hgx := World.grownBy.trans hG1 (gr_below hb2)
    clear hst hA KW0 hR hv2 hb2 hz1 hz0 hg0 h0 hg hr
    go_wp2_with fail
    go_loopw [3] (fun a wr => ∃ (j : Nat) (L : List X3.RX), WaysSt b s w W R i j L a wr) (fun _ wr => s.size - posOf b wr)
    case atStart => exact ⟨j, [r], HST.out⟩
    case round =>
      clear HST HUN hj hat e2
      clear r j
      obtain ⟨j, L, st⟩ := hrel
      obtain ⟨f, hf, hp⟩ := st.goes
      have HPP := hid hp
      clear hp
      obtain ⟨so, sc, rfl⟩ := st.row.sl
      have ST := hid st
      clear st
      have hLs : L.length ≤ 1001 := by have := ST.out.few; have := ST.out.le; omega
      have kp1 := hid (passed_any b s 124 j wr ST.out.rd hsm ST.out.le)
      by_cases h124 : X3.passed (LL s) j 124 = true
      · rw [h124] at kp1 HPP
        simp only [if_true] at kp1 HPP
        have hlt := passed_le h124
        clear h124
        have hf0 : 0 < f := by omega
        obtain ⟨f, rfl⟩ : ∃ f', f = f' + 1 := ⟨f - 1, by omega⟩
        have HPU : Hid ((X3.wayX W (LL s) (j + 1)).bind (fun r j => if X3.passed (LL s) j 124 then X3.waysL W (LL s) f (j + 1) (L ++ [r]) else .ok (L ++ [r]) j) = R) := HPP
        clear HPP
        go_wp2_with fail
        refine kp1.out.mono ?_
        rintro e w4 ⟨rfl, hr4, hg4⟩
        have HRow := hid (ST.out.row.gr (b := b) (by omega) hg4)
        have hs4 := hg4.size
        have hKr : w.heap.size < wr.heap.size := (Array.getElem?_eq_some_iff.1 ST.out.res).1
        have KP2 := hid (KW.out (j + 1) w4 (by have := ST.out.ge; omega) hr4 hlt)
        cases hD : X3.wayX W (LL s) (j + 1) with
        | err c =>
          rw [hD] at KP2 HPU
          have hR : R = .err c := HPU.out.symm
          subst hR
          have hRR : RR = .err c := HRR.out
          subst hRR
          go_wp2_with fail
          refine KP2.out.mono ?_
          rintro e w5 ⟨rfl, hg5⟩
          exact ⟨rfl, rfl, World.grownBy.trans ST.out.gr (World.grownBy.trans hg4 hg5)⟩
        | ok r j' =>
          have hat := HAT.out (j + 1) j' r hlt hD
          rw [hll] at hat
          rw [hD] at KP2 HPU
          replace HPU : Hid ((if X3.passed (LL s) j' 124 then X3.waysL W (LL s) f (j' + 1) (L ++ [r]) else .ok (L ++ [r]) j') = R) := HPU
          go_wp2_with fail
          refine KP2.out.mono ?_
          rintro e w5 ⟨nv, rfl, hRn, hr5, hg5, hj5⟩
          obtain ⟨ka, kx, ky, kz, ku, ko, kn, kc, rfl⟩ := hRn.shape
          obtain ⟨VS, hreps, hown⟩ := HRow.out.gr (b := b) (by omega) hg5
          have hltb := HRow.out.lt
          obtain ⟨i0, hi, hz0, hz1, hz2⟩ := info_parts info28
          have hs5 := hg5.size
          go_wp2_with (at_builtin; refine wpList_append_own_at _ rfl _ _ 26 rfl (w.heap.size + 1) 28 i0 (.agg zero6) 6 64 Try.underlying26 hi hz0 hz1 hz2 rfl (by decide) _ _ _ rfl (hown.alloc _) ⟨w5.heap.size, 0, none⟩ 1 1 [.int .i64 ka, .int .u64 kx, .int .u64 ky, .int .u64 kz, .int .u64 ku, .slice ko kn kc] rfl rfl ?c1 ?c2 ?c3 ?c4 ?c5 ?_)
          case c1 =>
            intro j v hj
            have := Lib.cell_of_heap (new_block w5 (.cells #[.int .i64 ka, .int .u64 kx, .int .u64 ky, .int .u64 kz, .int .u64 ku, .slice ko kn kc] 28)) j
            rw [show (⟨w5.heap.size, 0, none⟩ : Addr).add j = ⟨w5.heap.size, j, none⟩ by simp [Addr.add]; omega]
            rw [this, ← hj]
            simp
          case c2 => intro v hv; simp at hv; rcases hv with rfl | rfl | rfl | rfl | rfl | rfl <;> rfl
          case c3 => unfold maxLen; omega
          case c4 => omega
          case c5 => simp; omega
          intro v' w6 hown' hgrow hnil hat'
          have hrow6 : RowOf (w.heap.size + 1) w6 v' (L ++ [r]) := row_push hreps hltb (by omega) hRn ((Below.refl _ w5).alloc (Nat.le_refl _) _) hown' hgrow (by rw [World.size_alloc]; exact hat')
          have hgA : Gr b wr w5 := World.grownBy.trans hg4 hg5
          have hb56 : Below (w.heap.size + 1) w5 w6 := ((Below.refl _ w5).alloc (by omega) _).grown hgrow (by simp; omega) (fun q hq => (hltb q hq).1)
          have hG5 : Gr b w w5 := World.grownBy.trans ST.out.gr hgA
          have hG6 : Gr b w w6 := ⟨hb56.os.trans hG5.os, hb56.tape.trans hG5.tape, hb56.output.trans hG5.output, Nat.le_trans hG5.size hb56.size, fun k hk hne => (hb56.block k (by omega)).trans (hG5.block k hk hne)⟩
          have hr6 : Rd b s j' w6 := (hb56.block b (by omega)).trans hr5
          have hres6 := (hb56.block w.heap.size (by omega)).trans ((hgA.block w.heap.size (by omega) (fun e => hne (Option.some.inj e))).trans ST.out.res)
          have hst : WaysSt b s w W R i j' (L ++ [r]) v' w6 := ⟨hr6, hG6, hj5, by have := ST.out.ge; omega, hres6, hrow6, by have := ST.out.few; simp; omega, by simp, ⟨f, by omega, HPU.out⟩⟩
          have HST := hid hst
          have hrp := ST.out.rd
          clear hst hrow6 hown' hgrow hnil hat' hown hreps hltb HRow
          go_wp2_with fail
          refine ⟨⟨j', _, HST.out⟩, ?_⟩
          show s.size - posOf b w6 < s.size - posOf b wr
          rw [posOf_rd hr6, posOf_rd hrp]
          omega
      · have hn : X3.passed (LL s) j 124 = false := by simpa using h124
        rw [hn] at kp1 HPP
        simp only [Bool.false_eq_true, if_false] at kp1 HPP
        clear hn h124
        go_wp2_with fail
        refine kp1.out.mono ?_
        rintro e w4 ⟨rfl, hr4, hg4⟩
        have hG4 : Gr b w w4 := World.grownBy.trans ST.out.gr hg4
        have hres4 := (hg4.block w.heap.size (by have := (Array.getElem?_eq_some_iff.1 ST.out.res).1; omega) (fun e => hne (Option.some.inj e))).trans ST.out.res
        have HRow := hid (ST.out.row.gr (b := b) (by omega) hg4)
        have hRR : RR = .ok (X3.mkAlt L) j := by rw [HRR.out, ← HPP.out]; rfl
        subst hRR
        unfold zero6 at hres4
        obtain ⟨n0, n1, n2, n3, n4, n5⟩ := cells6 hres4
        obtain ⟨f0, f1, f2, f3, f4, f5⟩ := frozen6 hres4
        have hjl := ST.out.le
        have hL0 := hid ST.out.some_
        clear HPP HRR KW HAT ST
        match L, hLs, HRow, hL0 with
        | [], _, HRow, h0 => exact absurd rfl h0.out
        | [r], _, HRow, _ =>
          obtain ⟨g, cap, hv, hBg, hgw, hcap, hrep⟩ := HRow.out.shape (by simp)
          obtain ⟨rfl, _, rfl⟩ : so = some ⟨g, 0, none⟩ ∧ True ∧ sc = cap := by injection hv with h1 h2 h3; exact ⟨h1, trivial, h3⟩
          obtain ⟨ka, kx, ky, kz, ku, kv, hR, c0, c1, c2, c3, c4, c5⟩ := RepLS.at_ hrep 0 (by simp)
          obtain ⟨ko, kn, kc, rfl⟩ := hR.slice
          simp only [Nat.zero_add, Nat.zero_mul] at c0 c1 c2 c3 c4 c5
          simp only [List.length_cons, List.length_nil, Nat.zero_add] at hcap
          have HR := hid (show Rep (w.heap.size + 1) w4 r _ from hR)
          clear hR hv hrep
          obtain ⟨w8, e8, hz8, hg8, hs8⟩ := six hres4 (.int .i64 ka) (.int .u64 kx) (.int .u64 ky) (.int .u64 kz) (.int .u64 ku) (.slice ko kn kc)
          have hr8 : Rd b s j w8 := (hg8.block b (Array.getElem?_eq_some_iff.1 hr4).1 (fun e => hbn (Option.some.inj e))).trans hr4
          have hG8 : Gr b w w8 := gr_fresh hG4 (Nat.le_refl _) hg8
          have HR8 := hid hr8
          clear hr8
          go_wp2_with fail
          obtain ⟨y0, y1, y2, y3, y4, y5⟩ := cells6 hz8
          refine bodyPost_ret (v := .agg #[.int .i64 ka, .int .u64 kx, .int .u64 ky, .int .u64 kz, .int .u64 ku, .slice ko kn kc]) (by simp [results, Try.results28, go_sem, y0, y1, y2, y3, y4, y5]) rfl ?_
          exact ⟨_, rfl, (HR.out.kept (keep_gr (b := w.heap.size) (by omega) hg8)).mono (by omega), HR8.out, hG8, hjl⟩
        | r1 :: r2 :: L, hLs, HRow, _ =>
          obtain ⟨g, cap, hv, hBg, hgw, hcap, hrep⟩ := HRow.out.shape (by simp)
          obtain ⟨rfl, _, rfl⟩ : so = some ⟨g, 0, none⟩ ∧ True ∧ sc = cap := by injection hv with h1 h2 h3; exact ⟨h1, trivial, h3⟩
          have HR := hid (show Rep (w.heap.size + 1) w4 (.alt (r1 :: r2 :: L)) (nodeV 3 0 0 0 0 (.slice (some ⟨g, 0, none⟩) (r1 :: r2 :: L).length sc)) from .alt _ g sc hrep hcap hBg hgw (by simp))
          clear hv hrep
          have t1 : (((r1 :: r2 :: L).length : Int) == 1) = false := by simp; omega
          generalize (r1 :: r2 :: L).length = n at *
          obtain ⟨w8, e8, hz8, hg8, hs8⟩ := six hres4 (.int .i64 3) (.int .u64 0) (.int .u64 0) (.int .u64 0) (.int .u64 0) (.slice (some ⟨g, 0, none⟩) n sc)
          have hr8 : Rd b s j w8 := (hg8.block b (Array.getElem?_eq_some_iff.1 hr4).1 (fun e => hbn (Option.some.inj e))).trans hr4
          have hG8 : Gr b w w8 := gr_fresh hG4 (Nat.le_refl _) hg8
          have HR8 := hid hr8
          clear hr8
          go_wp2_with fail
          obtain ⟨y0, y1, y2, y3, y4, y5⟩ := cells6 hz8
          refine bodyPost_ret (v := .agg #[.int .i64 3, .int .u64 0, .int .u64 0, .int .u64 0, .int .u64 0, .slice (some ⟨g, 0, none⟩) n sc]) (by simp [results, Try.results28, go_sem, y0, y1, y2, y3, y4, y5]) rfl ?_
          exact ⟨_, rfl, (HR.out.kept (keep_gr (b := w.heap.size) (by omega) hg8)).mono (by omega), HR8.out, hG8, hjl⟩

theorem ways_any (b : Nat) (s : ByteArray) (hs : s.size ≤ 1000) : ∀ (f i : Nat) (w : World), Rd b s i w → i ≤ s.size → s.size - i < f → Calls Try.prog 28 #[.pointer (some ⟨b, 0, none⟩)] w (RP b s w (X3.waysX (LL s) f i)) := by
  intro f
  induction f with
  | zero => intro i w h hi hf; omega
  | succ f ih =>
    intro i w h hi hf
    exact ways_step b s i w h hs hi (X3.waysX (LL s) f) (fun w k hk hr hkl => ih k w hr hkl (by omega)) (X3.ways_goes (LL s) f) (fun i r j hi hw => by
      have h1 := X3.ways_size (s := LL s) hi hw
      have h2 := (X3.ways_goes (LL s) f i j r hi hw).2
      have h3 : (LL s).length = s.size := rfl
      omega)

end Go.Proofs.Ytndefngkkikkeaa
