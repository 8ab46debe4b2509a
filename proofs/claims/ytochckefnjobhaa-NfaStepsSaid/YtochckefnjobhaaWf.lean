/- Where a machine is nowhere it stays nowhere. -/
import Derived.Test.YtochckefnjobhaaQg
import Derived.Test.YtochckefnjobhaaWe
set_option linter.unusedVariables false
namespace Go.Proofs.Ytochckefnjobhaa
open X3 (RX Pl)

theorem none_step {l : List RX} {s : List UInt8} (h : AtN l s []) (x : UInt8) : AtN l (s ++ [x]) [] :=
  h.step ⟨List.Pairwise.nil, fun q => by
    constructor
    · intro hq; cases hq
    · rintro ⟨⟨n, ⟨p, pl, hp, _⟩, _⟩, _⟩; cases hp⟩
theorem none_app {l : List RX} (t : List UInt8) : ∀ {s : List UInt8}, AtN l s [] → AtN l (s ++ t) [] := by
  induction t with
  | nil => intro s h; rw [List.append_nil]; exact h
  | cons x t ih =>
    intro s h
    have := ih (none_step h x)
    rwa [List.append_assoc] at this
theorem none_run {l : List RX} {s : List UInt8} (h : AtN l s []) : RunR l s 0 := ⟨by decide, fun i => X4.run_tags h i⟩
end Go.Proofs.Ytochckefnjobhaa

/- The law NfaNothing of package nfa: its walk. -/
namespace Go.Proofs.Ytochckefnjobhaa
open Go Go.RowKit Go.Lib
open X3 (RX Pl)
set_option linter.unusedVariables false
set_option linter.unusedSimpArgs false

theorem peX_size {s : ByteArray} {r : RX} (h : peX s = some r) : r.size ≤ 500 := by
  unfold peX at h
  cases hX : X3.parseX (LL s) with
  | inl c => rw [hX] at h; simp at h; rw [← h.2]; simp [X3.RX.size]
  | inr r' => rw [hX] at h; simp at h; subst h; exact parse_size hX
theorem trees_size (l : List ByteArray) : ∀ k (hk : k < (treesOf l).length), (treesOf l)[k].size ≤ 1000000 := fun k hk => by
  have hm := List.getElem_mem hk
  obtain ⟨s, _, hs⟩ := List.mem_filterMap.1 hm
  have := peX_size hs
  omega
theorem over_few {l : List ByteArray} (h : overB l = false) : l.length ≤ 8 := by
  unfold overB at h
  rw [Bool.or_eq_false_iff] at h
  have := h.2
  simp at this
  omega

set_option maxRecDepth 100000 in
set_option maxHeartbeats 4000000 in
theorem nothing_walk (l : List ByteArray) (s t : ByteArray) (w : World) (v : Value) (h : TextsAt w v l) (hs : s.size ≤ maxLen) (ht : t.size ≤ maxLen) : Calls Try.prog 7 #[v, .string s, .string t] w fun e w' => e = .returned (.bool true) ∧ Below w.heap.size w w' := by
  have HT := hid h
  clear h
  go_enter Try.func7, Try.ntmps7
  go_wp2_with fail
  refine (works _).mono ?_
  rintro e w1 ⟨rfl, hb1⟩
  have HT1 := hid (HT.out.below hb1)
  have HB1 := hid hb1
  have KO := hid (over_any l w1 v HT1.out)
  clear hb1
  go_wp2_with fail
  refine KO.out.mono ?_
  rintro e w9 ⟨rfl, rfl⟩
  cases hov : overB l with
  | true =>
    go_wp2_with fail
    go_ret
    exact ⟨rfl, HB1.out⟩
  | false =>
    have hl8 := over_few hov
    have HOV := hid hov
    clear hov
    by_cases hs40 : (40 : Int) < (s.size : Int)
    · go_wp2_with fail
      go_ret
      exact ⟨rfl, HB1.out⟩
    by_cases ht40 : (40 : Int) < (t.size : Int)
    · go_wp2_with fail
      go_ret
      exact ⟨rfl, HB1.out⟩
    have KP := hid (parsed_any l w9 v HT1.out (by omega))
    go_wp2_with fail
    refine KP.out.mono ?_
    rintro e w2 ⟨rv, rfl, hrow, hb2⟩
    have HR := hid (RowR.ofRow hrow)
    have HB2 := hid (HB1.out.trans (hb2.mono HB1.out.size))
    have KB := hid (build_any _ _ w2 rv HR.out (fun g hg => hg) (trees_size l) (by have : (treesOf l).length ≤ l.length := List.length_filterMap_le _ _; omega))
    clear hrow hb2
    go_wp2_with fail
    refine KB.out.mono ?_
    rintro e w3 ⟨hb3, hP⟩
    have HB3 := hid (HB2.out.trans (hb3.mono HB2.out.size))
    clear hb3
    rcases hP with ⟨hm, rfl⟩ | ⟨hnm, m, T, pv, AS, bv, A0, rfl, hN⟩
    · clear hm
      go_wp2_with fail
      go_ret
      exact ⟨rfl, HB3.out⟩
    · have HN := hid hN
      have KG := hid (begin_any hN)
      clear hN hnm
      go_wp2_with fail
      refine KG.out.mono ?_
      rintro e w4 ⟨v0, rfl, hr0, _, hb4⟩
      have HN4 := hid (HN.out.below hb4)
      have HB4 := hid (HB3.out.trans (hb4.mono HB3.out.size))
      have HR0 := hid hr0
      clear hr0 hb4
      go_wp2_with fail
      go_loopw [10, 11] (fun t10 t11 wr => ∃ (k : Nat) (A : List Nat), k ≤ s.size ∧ t11 = .int .i64 (k : Int) ∧ Hid (AtN (treesOf l) ((LL s).take k) A) ∧ Hid (wr.ownsRow 0 3 1 t10 A.length (ints A)) ∧ Hid (Nfa (treesOf l) w2.heap.size m wr T pv AS bv A0) ∧ Below w.heap.size w wr) (fun _ t11 _ => s.size - (RowKit.intOf t11).toNat)
      case atStart => exact ⟨0, A0, Nat.zero_le _, rfl, hid (by rw [List.take_zero]; exact HN.out.at_), hid ⟨HR0.out.1, HR0.out.2.imp id (fun ⟨g, cap, cur, h1, h2, h3⟩ => ⟨g, cap, cur, h1, Nat.zero_le _, h3⟩)⟩, HN4, HB4.out⟩
      case round =>
        obtain ⟨k, A, hk, rfl, HA, HRk, HNk, hB⟩ := hrel
        have HBk := hid hB
        have hsz := hB.size
        clear hB
        by_cases hlt : k < s.size
        · have ks := hid (step_at HNk.out HA.out HRk.out (s[k]'hlt))
          have h1 : (k : Int) < (s.size : Int) := by omega
          have h2 : (0 : Int) ≤ (k : Int) := by omega
          go_wp2_with fail
          refine ks.out.mono ?_
          rintro e w5 ⟨v5, A', rfl, hA', hr', hn', hb'⟩
          have HA' := hid hA'
          have HR' := hid hr'
          have HB' := hid hb'
          have HN' := hid (HNk.out.below hb')
          clear hA' hr' hn' hb'
          go_wp2_with fail
          refine ⟨⟨k + 1, A', by omega, rfl, hid (by rw [ll_next hlt]; exact HA'.out), hid ⟨HR'.out.1, HR'.out.2.imp id (fun ⟨g, cap, cur, h1, h2, h3⟩ => ⟨g, cap, cur, h1, Nat.zero_le _, h3⟩)⟩, HN', HBk.out.trans (HB'.out.mono hsz)⟩, ?_⟩
          show s.size - ((k : Int) + 1).toNat < s.size - ((k : Int)).toNat
          omega
        · have h1 : ¬ (k : Int) < (s.size : Int) := by omega
          obtain rfl : k = s.size := by omega
          have htk : (LL s).take s.size = LL s := List.take_of_length_le (by rw [Array.length_toList]; exact Nat.le_refl _)
          rw [htk] at HA
          obtain ⟨ao, ac, rfl⟩ : ∃ ao ac, u10 = .slice ao A.length ac := by
            rcases HRk.out.2 with ⟨h, h2⟩ | ⟨g, cap, cur, h, _⟩
            · rw [h, h2]; exact ⟨_, _, rfl⟩
            · exact ⟨_, _, h⟩
          by_cases hA0 : 0 < A.length
          · have h3 : (0 : Int) < (A.length : Int) := by omega
            go_wp2_with fail
            go_ret
            exact ⟨rfl, HBk.out⟩
          · have hnil : A = [] := List.eq_nil_of_length_eq_zero (by omega)
            subst hnil
            have KR1 := hid (run_any HNk.out (s ++ t) (by rw [ByteArray.size_append]; omega))
            clear htk
            go_wp2_with fail
            refine KR1.out.mono ?_
            rintro e w6 ⟨R1, rfl, hR1, hb6⟩
            obtain rfl : R1 = 0 := hR1.ext (by have := none_run (none_app (LL t) HA.out); rwa [show LL (s ++ t) = LL s ++ LL t by simp [LL]])
            have HN6 := hid (HNk.out.below hb6)
            have HB6 := hid (HBk.out.trans (hb6.mono hsz))
            have KR2 := hid (run_any HN6.out s (by omega))
            clear hR1 hb6
            go_wp2_with fail
            refine KR2.out.mono ?_
            rintro e w7 ⟨R2, rfl, hR2, hb7⟩
            obtain rfl : R2 = 0 := hR2.ext (none_run HA.out)
            have HB7 := hid (HB6.out.trans (hb7.mono HB6.out.size))
            clear hR2 hb7
            go_wp2_with fail
            go_ret
            exact ⟨rfl, HB7.out⟩
end Go.Proofs.Ytochckefnjobhaa
