/- The law NfaTwice of package nfa: its walk. -/
import Derived.Test.YtochckefnjobhaaXw
namespace Go.Proofs.Ytochckefnjobhaa
open Go Go.RowKit Go.Lib
open X3 (RX Pl)
set_option linter.unusedVariables false
set_option linter.unusedSimpArgs false

theorem drop_rev {L : List RX} {m : Nat} (h : m < L.length) : (L.drop (m + 1)).reverse ++ [L[m]] = (L.drop m).reverse := by
  rw [List.drop_eq_getElem_cons h, List.reverse_cons]

set_option maxRecDepth 100000 in
set_option maxHeartbeats 8000000 in
theorem twice_walk (l : List ByteArray) (s : ByteArray) (w : World) (v : Value) (h : TextsAt w v l) (hs : s.size ≤ maxLen) : Calls Try.prog 6 #[v, .string s] w fun e w' => e = .returned (.bool true) ∧ Below w.heap.size w w' := by
  have HT := hid h
  clear h
  go_enter Try.func6, Try.ntmps6
  go_wp2_with fail
  refine (works _).mono ?_
  rintro e w1 ⟨rfl, hb1⟩
  have HT1 := hid (HT.out.below hb1)
  have HB1 := hid hb1
  have KO := hid (over_any l w1 v HT1.out)
  clear hb1
  go_wp2_with fail
  refine KO.out.mono ?_
  rintro e w9 ⟨rfl, rfl⟩
  cases hov : overB l with
  | true =>
    go_wp2_with fail
    go_ret
    exact ⟨rfl, HB1.out⟩
  | false =>
    have hl8 := over_few hov
    have HOV := hid hov
    clear hov
    by_cases hs40 : (40 : Int) < (s.size : Int)
    · go_wp2_with fail
      go_ret
      exact ⟨rfl, HB1.out⟩
    have KP := hid (parsed_any l w9 v HT1.out (by omega))
    go_wp2_with fail
    refine KP.out.mono ?_
    rintro e w2 ⟨rv, rfl, hrow, hb2⟩
    have hlen : (treesOf l).length ≤ 8 := Nat.le_trans (List.length_filterMap_le _ _) hl8
    have HSZ := hid (trees_size l)
    have HL := hid (RowR.ofRowB hrow)
    have HB2 := hid (HB1.out.trans (hb2.mono HB1.out.size))
    have hsz2 := hb2.size
    obtain ⟨vo, vc, rfl⟩ := HL.out.shape
    generalize treesOf l = L at *
    clear hrow hb2
    go_wp2_with fail
    go_loopw [7, 8] (fun t7 t8 wr => ∃ (z : Int) (j : Nat), j ≤ L.length ∧ Hid (z = (j : Int) - 1) ∧ t8 = .int .i64 z ∧ Hid (RowOf w9.heap.size wr t7 (L.drop j).reverse) ∧ Hid (∀ g, t7.ownBlock = some g → w2.heap.size ≤ g) ∧ Below w2.heap.size w2 wr) (fun _ t8 _ => ((RowKit.intOf t8) + 1).toNat)
    case atStart => exact ⟨_, L.length, Nat.le_refl _, hid rfl, rfl, hid (by rw [List.drop_length]; exact RowOf.nil _ _), hid (fun g h => by cases h), Below.refl _ _⟩
    case round =>
      obtain ⟨z, j, hj, HZ, rfl, HRow, HO, hB⟩ := hrel
      have hszr := hB.size
      have hK : KeepS (fun g => w9.heap.size ≤ g ∧ g < w2.heap.size) w2 wr := ⟨hB.size, fun g h1 hl => hB.block g h1.2⟩
      have HLr := hid (HL.out.kept hK)
      clear hK
      by_cases hj0 : j = 0
      · subst hj0
        obtain rfl : z = -1 := by have := HZ.out; omega
        rw [List.drop_zero] at HRow
        have HB := hid hB
        have HR := hid (RowR.ofRow HRow.out)
        have HLq := hid (show RowR (fun g => g < wr.heap.size) wr (.slice vo L.length vc) L from by
          rcases HLr.out.sh with h | ⟨g, cap, h1, h2, h3, h4, h5⟩
          · exact ⟨.inl h⟩
          · exact ⟨.inr ⟨g, cap, h1, h3, h3, h4, h5.monoS fun g _ hl => hl⟩⟩)
        have hsl : X3.sizeL L ≤ 1000000000 := by
          have key : ∀ (L : List RX), (∀ k (hk : k < L.length), L[k].size ≤ 1000000) → X3.sizeL L ≤ L.length * 1000000 := by
            intro L
            induction L with
            | nil => intro _; simp [X3.sizeL]
            | cons r L ih =>
              intro h
              have h0 := h 0 (by simp)
              have h1 := ih fun k hk => h (k + 1) (by simpa using hk)
              rw [X3.sizeL, List.length_cons, Nat.add_mul]
              simp only [List.getElem_cons_zero] at h0
              omega
          have := key L HSZ.out
          omega
        have KS := hid (sizes_any L wr _ HLq.out HSZ.out hsl)
        clear hB hszr
        go_wp2_with fail
        refine KS.out.mono ?_
        rintro e w3 ⟨rfl, hb3⟩
        have HB3 := hid (HB.out.trans (hb3.mono HB.out.size))
        have HL3 := hid (HLq.out.below hb3)
        have HR3 := hid (HR.out.below hb3)
        clear hb3
        by_cases hsm : 3000 < X3.sizeL L
        · have h3 : (3000 : Int) < (X3.sizeL L : Int) := by omega
          go_wp2_with fail
          go_ret
          exact ⟨rfl, HB2.out.trans (HB3.out.mono HB2.out.size)⟩
        · have h3 : ¬ (3000 : Int) < (X3.sizeL L : Int) := by omega
          have hnm : ¬ many L := by rintro (h | h) <;> omega
          have hnr : ¬ many L.reverse := by rintro (h | h) <;> (first | rw [List.length_reverse] at h | rw [sizeL_rev] at h) <;> omega
          have HNM := hid hnm
          have HNR := hid hnr
          have KB := hid (build_any _ _ w3 _ HL3.out (fun g hg => hg) HSZ.out (by omega))
          have HSR := hid (show ∀ k (hk : k < L.reverse.length), L.reverse[k].size ≤ 1000000 from fun k hk => by rw [List.getElem_reverse]; exact HSZ.out _ _)
          clear hnm hnr hsm
          go_wp2_with fail
          refine KB.out.mono ?_
          rintro e w4 ⟨hb4, hP⟩
          rcases hP with ⟨hm, rfl⟩ | ⟨_, m, T, pv, AS, bv, A0, rfl, hN⟩
          · exact absurd hm HNM.out
          have HN := hid hN
          have HB4 := hid (HB3.out.trans (hb4.mono HB3.out.size))
          have HR4 := hid (HR3.out.below hb4)
          have KB2 := hid (build_any _ _ w4 _ HR4.out (fun g hg => hg) HSR.out (by rw [List.length_reverse]; omega))
          clear hN hb4
          go_wp2_with fail
          refine KB2.out.mono ?_
          rintro e w5 ⟨hb5, hP⟩
          rcases hP with ⟨hm, rfl⟩ | ⟨_, m2, T2, pv2, AS2, bv2, A02, rfl, hN2⟩
          · exact absurd hm HNR.out
          have HN5 := hid (HN.out.below hb5)
          have HN2 := hid hN2
          have HB5 := hid (HB4.out.trans (hb5.mono HB4.out.size))
          have KR1 := hid (run_any HN5.out s (by omega))
          clear hN2 hb5
          go_wp2_with fail
          refine KR1.out.mono ?_
          rintro e w6 ⟨a, rfl, hRa, hb6⟩
          have HA := hid hRa
          have HN6 := hid (HN2.out.below hb6)
          have HB6 := hid (HB5.out.trans (hb6.mono HB5.out.size))
          have KR2 := hid (run_any HN6.out s (by omega))
          clear hRa hb6
          go_wp2_with fail
          refine KR2.out.mono ?_
          rintro e w7 ⟨b, rfl, hRb, hb7⟩
          have HBb := hid hRb
          have HB7 := hid (HB6.out.trans (hb7.mono HB6.out.size))
          clear hRb hb7
          have halt := HA.out.1
          have hblt := HBb.out.1
          go_wp2_with fail
          go_loopw [15] (fun t15 wq => ∃ k : Nat, k ≤ L.length ∧ t15 = .int .i64 (k : Int) ∧ wq = w7) (fun t15 _ => L.length - (RowKit.intOf t15).toNat)
          case atStart => exact ⟨0, Nat.zero_le _, rfl, rfl⟩
          case round =>
            obtain ⟨k, hk, rfl, rfl⟩ := hrel
            by_cases hlt : k < L.length
            · have h1 : (k : Int) < (L.length : Int) := by omega
              have h2 : (0 : Int) ≤ (k : Int) := by omega
              have h4 : (L.length : Int) ≤ 8 := by omega
              have K1 := hid (fun w => bhas_any a (k : Int) halt w)
              have K2 := hid (fun w => bhas_any b ((L.length : Int) - 1 - (k : Int)) hblt w)
              have E := hid (twice_bit HA.out HBb.out hlt (by omega))
              go_wp2_with fail
              refine (K1.out _).mono ?_
              rintro e w8 ⟨rfl, rfl⟩
              go_wp2_with fail
              refine (K2.out _).mono ?_
              rintro e w8 ⟨rfl, rfl⟩
              rw [← E.out]
              generalize hasN a (k : Int) = x
              go_wp2_with fail
              refine ⟨⟨k + 1, by omega, rfl, trivial⟩, ?_⟩
              show L.length - ((k : Int) + 1).toNat < L.length - ((k : Int)).toNat
              omega
            · have h1 : ¬ (k : Int) < (L.length : Int) := by omega
              go_wp2_with fail
              go_ret
              exact ⟨rfl, HB2.out.trans (HB7.out.mono HB2.out.size)⟩
      · obtain ⟨m, rfl⟩ : ∃ m, j = m + 1 := ⟨j - 1, by omega⟩
        obtain rfl : z = (m : Int) := by have := HZ.out; omega
        have hm : m < L.length := by omega
        obtain ⟨g, kd, x, y, z', u, ko, kn, kc, rfl, hR, c0, c1, c2, c3, c4, c5⟩ := HLr.out.at_ m hm
        have h1 : (m : Int) < (L.length : Int) := by omega
        have h2 : (0 : Int) ≤ (m : Int) := by omega
        have h4 : (m : Int) ≤ 8 := by omega
        obtain ⟨w3, e3⟩ : ∃ w3, wr.alloc (.cells #[.int .i64 kd, .int .u64 x, .int .u64 y, .int .u64 z', .int .u64 u, .slice ko kn kc] 28) = w3 := ⟨_, rfl⟩
        have hb3 : Below wr.heap.size wr w3 := by rw [← e3]; exact (Below.refl _ _).alloc (Nat.le_refl _) _
        have hn3 : w3.heap[wr.heap.size]? = some (.cells #[.int .i64 kd, .int .u64 x, .int .u64 y, .int .u64 z', .int .u64 u, .slice ko kn kc] 28 (0, 0)) := by rw [← e3]; exact new_block _ _
        have hs3 : w3.heap.size = wr.heap.size + 1 := by rw [← e3]; simp
        obtain ⟨VS, hreps, hown⟩ := HRow.out.below hb3
        obtain ⟨i0, hi, hz0, hz1, hz2⟩ := info_parts info28
        have HREPS := hid hreps
        have HOWN := hid hown
        have HRW := hid (show RepS (fun g => w9.heap.size ≤ g ∧ some g ≠ u7.ownBlock) w3 L[m] (nodeV kd x y z' u (.slice ko kn kc)) from
          (hR.kept (keepS_below hb3)).monoS fun g h1 _ => ⟨h1.1, fun e => by have := HO.out g e.symm; omega⟩)
        have HBR := hid (hB.trans (hb3.mono hszr))
        have hw23 : w2.heap.size ≤ w3.heap.size := by omega
        have hw93 : w9.heap.size ≤ w3.heap.size := by omega
        have HS3 := hid hs3
        have hlr : (List.drop (m + 1) L).reverse.length ≤ 8 := by simp; omega
        clear hreps hown hR hB hb3 hs3
        go_wp2_with (at_builtin; go_loud (refine wpList_append_own_at _ rfl _ _ 26 rfl w9.heap.size 28 i0 (.agg zero6) 6 64 Try.underlying26 hi hz0 hz1 hz2 rfl (by decide) _ _ _ rfl HOWN.out ⟨wr.heap.size, 0, none⟩ 1 1 [.int .i64 kd, .int .u64 x, .int .u64 y, .int .u64 z', .int .u64 u, .slice ko kn kc] rfl rfl ?c1 ?c2 ?c3 ?c4 ?c5 ?_))
        case c1 =>
          intro j v hj
          have := Lib.cell_of_heap hn3 j
          first | rw [show (⟨wr.heap.size, 0, none⟩ : Addr).add j = ⟨wr.heap.size, j, none⟩ by simp [Addr.add]; omega] | skip
          rw [this, ← hj]
          simp
        case c2 => first | (intro v hv; simp at hv; rcases hv with rfl | rfl | rfl | rfl | rfl | rfl <;> rfl) | simp [Value.oneCell']
        case c3 => unfold maxLen; omega
        case c4 => omega
        try (case c5 => exact hw93)
        intro v' w4 hown' hgrow hnil hat
        have hrow4 : Hid (RowOf w9.heap.size w4 v' (L.drop m).reverse) := hid (by
          rw [← drop_rev hm]
          exact row_push2 HREPS.out HRW.out (by rw [List.length_reverse, List.length_drop]; exact hown') hgrow hat)
        have hO4 : Hid (∀ g, v'.ownBlock = some g → w2.heap.size ≤ g) := hid fun g hg => by
          rcases hat with e | e
          · rw [e] at hg; exact HO.out g hg
          · rw [e] at hg; have := Option.some.inj hg; have := HS3.out; omega
        have HB4 := hid (HBR.out.grown hgrow hw23 (fun q hq => HO.out q hq))
        clear hown' hgrow hnil hat hn3 e3
        go_wp2_with fail
        refine ⟨⟨(m : Int) - 1, m, by omega, hid rfl, rfl, hrow4, hO4, HB4.out⟩, ?_⟩
        show ((m : Int) - 1 + 1).toNat < ((m : Int) + 1).toNat
        omega
end Go.Proofs.Ytochckefnjobhaa
