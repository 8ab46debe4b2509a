/- regex.clone. -/
import Derived.Test.YtndefngkkikkeaaRm
namespace Go.Proofs.Ytndefngkkikkeaa
open Go Go.RowKit Go.Lib
set_option linter.unusedVariables false

set_option maxRecDepth 100000 in
set_option maxHeartbeats 4000000 in
/-- The loop over the kids, a kid's copy in hand. -/
theorem clone_kids (b : Nat) (w : World) (l : List X3.RX) (g cap : Nat) (kd x y z u : Int) (hl : RepL b w l g 0) (hg : b ≤ g) (hw : g < w.heap.size) (hn : l.length ≤ 1000000) (hcap : l.length ≤ cap)
    (ih : ∀ (k : Nat) (hk : k < l.length) (w' : World) (v : Value), Rep b w' l[k] v → Calls Try.prog 53 #[v] w' fun e w'' => ∃ v', e = .returned v' ∧ Rep w'.heap.size w'' l[k] v' ∧ Below w'.heap.size w' w'') :
    Calls Try.prog 53 #[nodeV kd x y z u (.slice (some ⟨g, 0, none⟩) l.length cap)] w fun e w' => ∃ kv, e = .returned (nodeV kd x y z u kv) ∧ RowOf w.heap.size w' kv l ∧ Below w.heap.size w w' := by
  have IH := hid ih
  have HL := hid hl
  clear ih hl
  obtain ⟨w0, hw0⟩ : ∃ w0, w0 = (w.alloc (.cells #[.int .i64 kd, .int .u64 x, .int .u64 y, .int .u64 z, .int .u64 u, .slice (some ⟨g, 0, none⟩) l.length cap] 28)).alloc (.cells zero6 28) := ⟨_, rfl⟩
  have hb0 : Below w.heap.size w w0 := by rw [hw0]; exact below_two _ _ _
  have hz0 : w0.heap[w.heap.size + 1]? = some (.cells zero6 28 (0, 0)) := by rw [hw0]; exact new_block2 _ _ _
  have hv0 : w0.heap[w.heap.size]? = some (.cells #[.int .i64 kd, .int .u64 x, .int .u64 y, .int .u64 z, .int .u64 u, .slice (some ⟨g, 0, none⟩) l.length cap] 28 (0, 0)) := by rw [hw0]; exact (Below.heap_alloc _ _ _ (by simp)).trans (new_block _ _)
  have hs0 : w0.heap.size = w.heap.size + 1 + 1 := by rw [hw0]; simp
  unfold zero6 at hw0
  go_enter Try.func53, Try.ntmps53
  go_upto_region 1 with fail
  rw [← hw0]
  clear hw0
  obtain ⟨p0, p1, p2, p3, p4, p5⟩ := cells6 hv0
  have HV0 := hid hv0
  have HZ0 := hid hz0
  clear hv0 hz0
  go_wp2_with fail
  clear p0 p1 p2 p3 p4 p5
  go_loopw [3, 9] (fun a i wr => ∃ k : Nat, k ≤ l.length ∧ i = .int .i64 (k : Int) ∧ RowOf w0.heap.size wr a (l.take k) ∧ Below w0.heap.size w0 wr) (fun _ i _ => l.length - (RowKit.intOf i).toNat)
  case atStart => exact ⟨0, by omega, rfl, by rw [List.take_zero]; exact RowOf.nil _ _, Below.refl _ _⟩
  case round =>
    obtain ⟨k, hk, rfl, hrow, hB⟩ := hrel
    have hBw : Below w.heap.size w wr := hb0.trans (hB.mono (by omega))
    have hsz := hB.size
    by_cases hlt : k < l.length
    · obtain ⟨kd', x', y', z', u', kv', hR, c0, c1, c2, c3, c4, c5⟩ := RepLS.at_ (HL.out.kept (keep_below hBw) hg hw) k hlt
      rw [Nat.zero_add] at c0 c1 c2 c3 c4 c5
      have h1 : (k : Int) < (l.length : Int) := by omega
      have h2 : (0 : Int) ≤ (k : Int) := by omega
      obtain ⟨ko, kn, kc, rfl⟩ := hR.slice
      have hI := hid (IH.out k hlt)
      have hlen : (l.take k).length = k := by rw [List.length_take]; omega
      have HT : Hid (l.take k ++ [l[k]] = l.take (k + 1)) := by
        show _ = _
        rw [List.take_add_one, List.getElem?_eq_getElem hlt]; rfl
      obtain ⟨wa, hwa⟩ : ∃ wa, wa = wr.alloc (.cells #[.int .i64 kd', .int .u64 x', .int .u64 y', .int .u64 z', .int .u64 u', .slice ko kn kc] 28) := ⟨_, rfl⟩
      have hba : Below wr.heap.size wr wa := by rw [hwa]; exact (Below.refl _ wr).alloc (Nat.le_refl _) _
      have hra : Rep b wa l[k] (nodeV kd' x' y' z' u' (.slice ko kn kc)) := hR.kept (keep_below hba)
      have HRow := hid (hrow.below hba)
      have hbwa : Below w0.heap.size w0 wa := hB.trans (hba.mono hsz)
      have hsa := hbwa.size
      clear hrow hR
      generalize l[k] = rk at *
      generalize l.take k = lk at *
      have HIa := hid (hI.out _ _ hra)
      clear hI hra
      go_wp2_with fail
      rw [← hwa]
      clear hwa
      refine HIa.out.mono ?_
      rintro e w2 ⟨nv, rfl, hRn, hb2⟩
      obtain ⟨ka, kx, ky, kz, ku, ko', kn', kc', rfl⟩ := hRn.shape
      obtain ⟨VS, hreps, hown⟩ := HRow.out.below hb2
      have hltb := HRow.out.lt
      obtain ⟨i0, hi, hz0, hz1, hz2⟩ := info_parts info28
      have hb2s := hb2.size
      rw [hlen] at hown
      go_wp2_with (at_builtin; refine wpList_append_own_at _ rfl _ _ 26 rfl w0.heap.size 28 i0 (.agg zero6) 6 64 Try.underlying26 hi hz0 hz1 hz2 rfl (by decide) _ _ _ rfl (hown.alloc _) ⟨w2.heap.size, 0, none⟩ 1 1 [.int .i64 ka, .int .u64 kx, .int .u64 ky, .int .u64 kz, .int .u64 ku, .slice ko' kn' kc'] rfl rfl ?c1 ?c2 ?c3 ?c4 ?c5 ?_)
      case c1 =>
        intro j v hj
        have := Lib.cell_of_heap (new_block w2 (.cells #[.int .i64 ka, .int .u64 kx, .int .u64 ky, .int .u64 kz, .int .u64 ku, .slice ko' kn' kc'] 28)) j
        rw [show (⟨w2.heap.size, 0, none⟩ : Addr).add j = ⟨w2.heap.size, j, none⟩ by simp [Addr.add]; omega]
        rw [this, ← hj]
        simp
      case c2 => intro v hv; simp at hv; rcases hv with rfl | rfl | rfl | rfl | rfl | rfl <;> rfl
      case c3 => unfold maxLen; omega
      case c4 => omega
      case c5 => simp; omega
      intro v' w4 hown' hgrow hnil hat
      have hrow4 : RowOf w0.heap.size w4 v' (lk ++ [rk]) := row_push hreps hltb hsa hRn ((Below.refl _ w2).alloc (Nat.le_refl _) _) (by rw [hlen, hs0]; exact hown') hgrow (by rw [World.size_alloc]; exact hat)
      have hb4 : Below w0.heap.size w0 w4 := ((hbwa.trans (hb2.mono hsa)).alloc (by omega) _).grown hgrow (by simp; omega) (fun q hq => (hltb q hq).1)
      have HR4 := hid hrow4
      have HB4 := hid hb4
      clear hrow4 hb4 hown' hgrow hnil hat hown hreps hltb HRow HIa
      go_wp2_with fail
      refine ⟨⟨k + 1, by omega, rfl, by rw [← HT.out]; exact HR4.out, HB4.out⟩, ?_⟩
      show l.length - ((k : Int) + 1).toNat < l.length - ((k : Int)).toNat
      omega
    · have h1 : ¬ (k : Int) < (l.length : Int) := by omega
      obtain rfl : k = l.length := by omega
      rw [List.take_length] at hrow
      have hv1 := (hB.block w.heap.size (by omega)).trans HV0.out
      have hz1 := (hB.block (w.heap.size + 1) (by omega)).trans HZ0.out
      have f5 := (frozen6 hv1).2.2.2.2.2
      obtain ⟨q0, q1, q2, q3, q4, q5⟩ := cells6 hv1
      obtain ⟨so, sc, rfl⟩ := hrow.sl
      have HRow := hid hrow
      clear hrow
      obtain ⟨w5, e5, hv5, hg5, hs5⟩ := one5 hv1 (.slice so l.length sc)
      have hz5 := (hg5.block (w.heap.size + 1) (by omega) (by simp)).trans hz1
      unfold zero6 at hz5
      go_upto_region 8 with fail
      obtain ⟨y0, y1, y2, y3, y4, y5⟩ := cells6 hv5
      obtain ⟨r0, r1, r2, r3, r4, r5⟩ := cells6 hz5
      obtain ⟨g0, g1, g2, g3, g4, g5⟩ := frozen6 hz5
      obtain ⟨w8, e8, hz8, hg8, hs8⟩ := six hz5 (.int .i64 kd) (.int .u64 x) (.int .u64 y) (.int .u64 z) (.int .u64 u) (.slice so l.length sc)
      go_wp2_with fail
      obtain ⟨y0, y1, y2, y3, y4, y5⟩ := cells6 hz8
      refine bodyPost_ret (v := nodeV kd x y z u (.slice so l.length sc)) (by simp [results, Try.results53, go_sem, y0, y1, y2, y3, y4, y5]) rfl ⟨_, rfl, ?_, ?_⟩
      · have h1 := HRow.out.gr (b := w.heap.size) (by omega) hg5
        have h2 := h1.gr (b := w.heap.size + 1) (by omega) hg8
        obtain ⟨VS, hh1, hh2⟩ := h2
        exact ⟨VS, hh1.monoS (fun g hg _ => ⟨by omega, hg.2⟩), hh2.1, hh2.2.imp id (fun ⟨g, cap, cur, e, hb, r⟩ => ⟨g, cap, cur, e, by omega, r⟩)⟩
      · exact below_fresh (below_fresh hBw (by omega) (Nat.le_refl _) hg5) (by omega) (by omega) hg8

theorem clone_any (b : Nat) : ∀ (n : Nat) (w : World) (r : X3.RX) (v : Value), r.size ≤ n → r.size ≤ 1000000 → Rep b w r v →
    Calls Try.prog 53 #[v] w fun e w' => ∃ v', e = .returned v' ∧ Rep w.heap.size w' r v' ∧ Below w.heap.size w w' := by
  intro n
  induction n with
  | zero => intro w r v h; have := size_pos r; omega
  | succ n ih =>
    intro w r v hn hb hR
    have leaf : ∀ (kd x y z u : Int), Calls Try.prog 53 #[nodeV kd x y z u noKids] w fun e w' => e = .returned (nodeV kd x y z u noKids) ∧ Below w.heap.size w w' := by
      intro kd x y z u
      obtain ⟨w0, hw0⟩ : ∃ w0, w0 = (w.alloc (.cells #[.int .i64 kd, .int .u64 x, .int .u64 y, .int .u64 z, .int .u64 u, .slice none 0 0] 28)).alloc (.cells zero6 28) := ⟨_, rfl⟩
      have hb0 : Below w.heap.size w w0 := by rw [hw0]; exact below_two _ _ _
      have hz0 : w0.heap[w.heap.size + 1]? = some (.cells zero6 28 (0, 0)) := by rw [hw0]; exact new_block2 _ _ _
      have hv0 : w0.heap[w.heap.size]? = some (.cells #[.int .i64 kd, .int .u64 x, .int .u64 y, .int .u64 z, .int .u64 u, .slice none 0 0] 28 (0, 0)) := by rw [hw0]; exact (Below.heap_alloc _ _ _ (by simp)).trans (new_block _ _)
      have hs0 : w0.heap.size = w.heap.size + 1 + 1 := by rw [hw0]; simp
      unfold zero6 at hw0
      go_enter Try.func53, Try.ntmps53
      go_upto_region 1 with fail
      rw [← hw0]
      clear hw0
      obtain ⟨p0, p1, p2, p3, p4, p5⟩ := cells6 hv0
      have HV0 := hid hv0
      have HZ0 := hid hz0
      clear hv0 hz0
      go_wp2_with fail
      clear p0 p1 p2 p3 p4 p5
      go_loopw [3, 9] (fun a i wr => a = .slice none 0 0 ∧ i = .int .i64 0 ∧ wr = w0) (fun _ _ _ => 0)
      case atStart => exact ⟨rfl, rfl, rfl⟩
      case round =>
        obtain ⟨rfl, rfl, rfl⟩ := hrel
        have f5 := (frozen6 HV0.out).2.2.2.2.2
        obtain ⟨q0, q1, q2, q3, q4, q5⟩ := cells6 HV0.out
        obtain ⟨w5, e5, hv5, hg5, hs5⟩ := one5 HV0.out (.slice none 0 0)
        have hz5 := (hg5.block (w.heap.size + 1) (by omega) (by simp)).trans HZ0.out
        unfold zero6 at hz5
        go_upto_region 8 with fail
        obtain ⟨y0, y1, y2, y3, y4, y5⟩ := cells6 hv5
        obtain ⟨r0, r1, r2, r3, r4, r5⟩ := cells6 hz5
        obtain ⟨g0, g1, g2, g3, g4, g5⟩ := frozen6 hz5
        obtain ⟨w8, e8, hz8, hg8, hs8⟩ := six hz5 (.int .i64 kd) (.int .u64 x) (.int .u64 y) (.int .u64 z) (.int .u64 u) (.slice none 0 0)
        go_wp2_with fail
        obtain ⟨y0, y1, y2, y3, y4, y5⟩ := cells6 hz8
        exact bodyPost_ret (v := nodeV kd x y z u (.slice none 0 0)) (by simp [results, Try.results53, go_sem, y0, y1, y2, y3, y4, y5]) rfl ⟨rfl, below_fresh (below_fresh hb0 (by omega) (Nat.le_refl _) hg5) (by omega) (by omega) hg8⟩
    cases hR with
    | empty => exact (leaf 0 0 0 0 0).mono fun e w' h => ⟨_, h.1, .empty, h.2⟩
    | bytes x y z u hx hy hz hu => exact (leaf 1 x y z u).mono fun e w' h => ⟨_, h.1, .bytes x y z u hx hy hz hu, h.2⟩
    | cat l g cap h hc hg hw h0 =>
      simp only [X3.RX.size] at hn hb ⊢
      have h1 := length_le_sizeL l
      refine (clone_kids b w l g cap 2 0 0 0 0 h hg hw (by omega) hc fun k hk w' v hv => ih w' _ v (by have := size_in l k hk; omega) (by have := size_in l k hk; omega) hv).mono ?_
      rintro e w' ⟨kv, rfl, hrow, hbw⟩
      obtain ⟨g', cap', rfl, h2, h3, h4, h5⟩ := hrow.shape h0
      exact ⟨_, rfl, .cat l g' cap' h5 h4 h2 h3 h0, hbw⟩
    | alt l g cap h hc hg hw h0 =>
      simp only [X3.RX.size] at hn hb ⊢
      have h1 := length_le_sizeL l
      refine (clone_kids b w l g cap 3 0 0 0 0 h hg hw (by omega) hc fun k hk w' v hv => ih w' _ v (by have := size_in l k hk; omega) (by have := size_in l k hk; omega) hv).mono ?_
      rintro e w' ⟨kv, rfl, hrow, hbw⟩
      obtain ⟨g', cap', rfl, h2, h3, h4, h5⟩ := hrow.shape h0
      exact ⟨_, rfl, .alt l g' cap' h5 h4 h2 h3 h0, hbw⟩
    | star r g cap h hc hg hw =>
      simp only [X3.RX.size] at hn hb ⊢
      refine (clone_kids b w [r] g cap 4 0 0 0 0 h hg hw (by simp) hc fun k hk w' v hv => ih w' _ v (by have := size_in [r] k hk; simp only [X3.sizeL] at this; omega) (by have := size_in [r] k hk; simp only [X3.sizeL] at this; omega) hv).mono ?_
      rintro e w' ⟨kv, rfl, hrow, hbw⟩
      obtain ⟨g', cap', rfl, h2, h3, h4, h5⟩ := hrow.shape (by simp)
      exact ⟨_, rfl, .star r g' cap' h5 h4 h2 h3, hbw⟩

end Go.Proofs.Ytndefngkkikkeaa
