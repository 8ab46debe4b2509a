/- MunchLongest: the walk. -/
import Derived.Test.YtochckefnjobhaaGreatDoorWo
namespace Go.Proofs.X7
open X5 (Aut runX)
open Go.Proofs.YtochckefnjobhaaGreatDoor.B1 (inN lessN lessN_zero_iff)
set_option linter.unusedVariables false
/-- No longer piece may be. -/
theorem last_after (D : Aut) (t : List UInt8) (a may : Nat) : ∀ n j, j ≤ n → 0 < j → (lastX D t a may n).2 < a + j → fX D t a may j = 0
  | 0, j, h, h0, _ => by omega
  | n + 1, j, h, h0, hl => by
    rw [lastX] at hl
    split at hl
    · have : a + n + 1 < a + j := hl
      omega
    · rename_i c
      by_cases e : j = n + 1
      · subst e; simpa using c
      · exact last_after D t a may n j (by omega) h0 hl
theorem last_at (D : Aut) (t : List UInt8) (a may : Nat) : ∀ n j, j ≤ n → 0 < j → (lastX D t a may n).2 = a + j → fX D t a may j = (lastX D t a may n).1
  | 0, j, h, h0, _ => by omega
  | n + 1, j, h, h0, hl => by
    rw [lastX] at hl ⊢
    split at hl
    · rename_i c
      rw [if_pos c]
      have : a + n + 1 = a + j := hl
      have : j = n + 1 := by omega
      subst this; rfl
    · rename_i c
      rw [if_neg c]
      have h1 := (last_le D t a may n).2
      exact last_at D t a may n j (by omega) h0 hl
theorem last_in (D : Aut) (t : List UInt8) (a may : Nat) (hm : may < M64) : ∀ n, inN (lastX D t a may n).1 may = true
  | 0 => by
    unfold inN
    rw [decide_eq_true_iff]
    exact (lessN_zero_iff (show (0 : Nat) < 18446744073709551616 by decide)).2 fun i _ h => by
      have : (0 : Nat).testBit i = true := h
      simp at this
  | n + 1 => by
    rw [lastX]
    split
    · unfold inN
      rw [decide_eq_true_iff]
      have hlt : fX D t a may (n + 1) < 18446744073709551616 := Nat.lt_of_le_of_lt Nat.and_le_right hm
      refine (lessN_zero_iff hlt).2 fun i _ h => ?_
      have : (runX D ((t.drop a).take (n + 1)) &&& may).testBit i = true := h
      rw [Nat.testBit_and, Bool.and_eq_true] at this
      exact this.2
    · exact last_in D t a may hm n
theorem last_zero (D : Aut) (t : List UInt8) (a may : Nat) (n : Nat) : ((lastX D t a may n).1 = 0) ↔ ((lastX D t a may n).2 = a) := by
  constructor
  · intro h
    induction n with
    | zero => rfl
    | succ n ih =>
      rw [lastX] at h ⊢
      split at h
      · rename_i c; exact absurd h c
      · rename_i c; rw [if_neg c]; exact ih h
  · intro h
    by_cases c : (lastX D t a may n).1 = 0
    · exact c
    · have := last_pos D t a may n c
      omega
end Go.Proofs.X7
namespace Go.Proofs.YtochckefnjobhaaGreatDoor
open Go Go.RowKit Go.Lib
open X5 (Aut)
open X7 (M64)
set_option linter.unusedVariables false
set_option linter.unusedSimpArgs false
theorem list_cut (x : ByteArray) (i j : Nat) : (x.extract i j).data.toList = (x.data.toList.take j).drop i := by
  rw [ByteArray.data_extract, Array.toList_extract, List.extract_eq_take_drop, List.drop_take]

set_option maxRecDepth 100000 in
set_option maxHeartbeats 16000000 in
theorem longest_walk {D : Aut} {d0 : Array Value} (w : World) (hL : Lies D d0 w) (s : ByteArray) (hs : s.size ≤ maxLen) (z : Int) (may : Nat) (hmay : may < M64) {Bt : Nat} (ht : Tab Bt w) (hBt : Bt ≤ w.heap.size) :
    Calls Tryz.prog 7 #[.agg d0, .string s, .int .i64 z, .int .u64 (may : Int)] w fun e w' => e = .returned (.bool true) ∧ Below w.heap.size w w' := by
  obtain ⟨wa, ea, hxa, hba⟩ := boxed w d0
  have HL := hid (hL.below hba)
  have HX := hid hxa
  have HB := hid hba
  have K := hid (works07 wa (ht.on (hba.mono hBt)) (Nat.le_trans hBt hba.size))
  have HD := hid hL.sz
  have HSM := hid hs
  clear hL ht hxa hba hs
  go_enter Tryz.func7, Tryz.ntmps7
  go_wp2_with fail
  refine K.out.mono ?_
  rintro e w1 ⟨rfl, hb⟩
  clear K ea
  have HB1 := hid (HB.out.trans (hb.mono HB.out.size))
  have HL := hid (HL.out.below hb)
  have HX := hid (HX.out.below hb)
  have K := hid (few_any w1 HL.out s HSM.out none 0 0 (by decide))
  clear hb
  go_wp2_with fail
  refine wp_load30' (.tmp 4) rfl w.heap.size rfl d0 HX.out HD.out.1 ?_
  go_wp2_with fail
  refine K.out.mono ?_
  rintro e w2 ⟨b, rfl, hbl, hb⟩
  clear K
  have HB2 := hid (HB1.out.trans (hb.mono HB1.out.size))
  have HL := hid (HL.out.below hb)
  have HX := hid (HX.out.below hb)
  clear hb
  cases b with
  | false =>
    clear hbl
    go_wp2_with fail
    go_ret
    exact ⟨rfl, HB2.out⟩
  | true =>
    have HLT := hid (hbl rfl)
    have hs40 := HLT.out.2.1
    clear hbl
    by_cases hz : z < 0
    · go_wp2_with fail
      go_ret
      exact ⟨rfl, HB2.out⟩
    by_cases hz2 : (s.size : Int) < z
    · go_wp2_with fail
      go_ret
      exact ⟨rfl, HB2.out⟩
    obtain ⟨a, rfl⟩ : ∃ a : Nat, z = (a : Int) := ⟨z.toNat, by omega⟩
    have K := hid (longest_any w2 HL.out s (by omega) (a : Int) may hmay)
    have hls : (LL s).length = s.size := Array.length_toList
    have hlg : X7.lgX D (LL s) (a : Int) may = ((X7.lastX D (LL s) a may (s.size - a)).1, ((X7.lastX D (LL s) a may (s.size - a)).2 : Int)) := by
      unfold X7.lgX
      rw [hls, if_neg (by omega), Int.toNat_natCast]
    rw [hlg] at K
    have HLA := hid (X7.last_after D (LL s) a may (s.size - a))
    have HLB := hid (X7.last_at D (LL s) a may (s.size - a))
    have HLE := hid (X7.last_le D (LL s) a may (s.size - a))
    have HLI := hid (X7.last_in D (LL s) a may hmay (s.size - a))
    have HLZ := hid (X7.last_zero D (LL s) a may (s.size - a))
    have HLL := hid (X7.last_lt D (LL s) a may hmay (s.size - a))
    have HLS := hid hls
    generalize (X7.lastX D (LL s) a may (s.size - a)).1 = p1 at *
    generalize (X7.lastX D (LL s) a may (s.size - a)).2 = p2 at *
    clear hlg hls
    go_wp2_with fail
    refine wp_load30' (.tmp 4) rfl w.heap.size rfl d0 HX.out HD.out.1 ?_
    go_wp2_with fail
    refine K.out.mono ?_
    rintro e w3 ⟨rfl, hb⟩
    clear K
    have HB3 := hid (HB2.out.trans (hb.mono HB2.out.size))
    obtain ⟨w4, e4⟩ : ∃ w4, w3.alloc (.cells #[.int .u64 (p1 : Int), .int .i64 (p2 : Int)] 61) = w4 := ⟨_, rfl⟩
    have hb4 : Below w3.heap.size w3 w4 := by rw [← e4]; exact (Below.refl _ _).alloc (Nat.le_refl _) _
    have HN4 := hid (show w4.heap[w3.heap.size]? = some (.cells #[.int .u64 (p1 : Int), .int .i64 (p2 : Int)] 61 (0, 0)) from by rw [← e4]; exact new_block _ _)
    have HB4 := hid (HB3.out.trans (hb4.mono HB3.out.size))
    have hbb := hb.trans (hb4.mono hb.size)
    have HL := hid (HL.out.below hbb)
    have HX := hid (HX.out.below hbb)
    clear hb hb4 hbb
    have hasz : (a : Int) + 1 ≤ 1000 := by omega
    go_wp2_with fail
    clear e4
    go_loopw [12] (fun t12 wr => ∃ j : Nat, j ≤ s.size - a ∧ t12 = .int .i64 ((a + j + 1 : Nat) : Int) ∧ Hid (Below w4.heap.size w4 wr)) (fun t12 _ => s.size + 1 - (RowKit.intOf t12).toNat)
    case atStart => exact ⟨0, Nat.zero_le _, rfl, hid (Below.refl _ _)⟩
    case round =>
      obtain ⟨j, hj, rfl, HBR⟩ := hrel
      have HXr := hid (HX.out.below HBR.out)
      have HLr := hid (HL.out.below HBR.out)
      have HN := hid ((HBR.out.block _ (Array.getElem?_eq_some_iff.1 HN4.out).1).trans HN4.out)
      have HBr := hid (HB4.out.trans (HBR.out.mono HB4.out.size))
      have hle := HBR.out.size
      obtain ⟨k, hk⟩ : ∃ k, a + j + 1 = k := ⟨_, rfl⟩
      simp only [hk]
      by_cases hlt : k ≤ s.size
      · have h1 : (k : Int) ≤ (s.size : Int) := by omega
        have h2 : (0 : Int) ≤ (a : Int) := by omega
        have h3 : (a : Int) ≤ (k : Int) := by omega
        have hcut : LL (s.extract a k) = ((LL s).drop a).take (j + 1) := by
          unfold LL
          rw [list_cut, List.drop_take, show k - a = j + 1 by omega]
        obtain ⟨rr, hrr⟩ : ∃ rr, X5.runX D (((LL s).drop a).take (j + 1)) = rr := ⟨_, rfl⟩
        have hrl : rr < M64 := by
          rw [← hrr]
          unfold X5.runX
          split
          · decide
          · rw [List.getD_eq_getElem?_getD]
            cases e : D.tags[(X5.goX D (((LL s).drop a).take (j + 1)) 0).toNat]? with
            | none => decide
            | some x =>
              obtain ⟨nv, tv, _, hda⟩ := HL.out
              obtain ⟨_, _, _, _, _, _, h9⟩ := tagsAt_get hda.tags e
              exact h9
        have hex : (s.extract a k).size < 9223372036854775808 := by rw [ByteArray.size_extract]; omega
        have KR : Hid (∀ w', Below wr.heap.size wr w' → Calls Tryz.prog 24 #[.agg d0, .string (s.extract a k)] w' fun e w'' => e = .returned (.int .u64 (rr : Int)) ∧ Below w'.heap.size w' w'') := hid fun w' hC => by
          have := run_at (HLr.out.below hC) (s.extract a k) hex
          rw [hcut, hrr] at this
          exact this
        have KM : Hid (∀ w', Below wr.heap.size wr w' → Calls Tryz.prog 36 #[.int .u64 (rr : Int), .int .u64 (may : Int)] w' fun e w'' => e = .returned (.int .u64 ((rr &&& may : Nat) : Int)) ∧ Below w'.heap.size w' w'') := hid fun w' hC => (B1.Meet_any rr may hrl hmay w').mono fun e w'' ⟨h1, h2⟩ => ⟨h1, by rw [h2]; exact Below.refl _ _⟩
        have HFX := hid (show X7.fX D (LL s) a may (j + 1) = rr &&& may from by unfold X7.fX; rw [hrr])
        clear hcut hrr hrl hex
        generalize rr &&& may = mm at *
        go_wp2_with fail
        refine wp_region_below (by kernel_rfl) (by kernel_rfl) ?_
        repeat (first
                  | (refine BigFrame.wpQuiet_skip (by rfl) ?_; try simp only [Act.put, List.setIfInBounds_toArray, List.set_cons_zero, List.set_cons_succ])
                  | (refine BigFrame.wpQuiet_want (by rfl) (fun K hK => ?_)
                     apply Exists.intro
                     refine ⟨fun w' hC => ?_, hK _ ?_⟩
                     · first
                        | exact quiet_load30 (.tmp 4) rfl w.heap.size rfl d0 hC HXr.out HD.out.1
                        | (unfold Oper.quietAt
                           go_simp
                           first
                             | with_reducible rfl
                             | done
                             | with_reducible exact below_call hC (Nat.le_refl _) (KR.out w' hC)
                             | with_reducible exact below_call hC (Nat.le_refl _) (KM.out w' hC))
                     clear hK K
                     try simp only [Act.put, List.setIfInBounds_toArray, List.set_cons_zero, List.set_cons_succ]))
        refine wpQuiet_nil ?_
        intro w5 hb5
        have HB5 := hid (HBr.out.trans (hb5.mono (Nat.le_trans HB4.out.size hle)))
        have HBR5 := hid (HBR.out.trans (hb5.mono hle))
        have hn5 := (hb5.block _ (Array.getElem?_eq_some_iff.1 HN.out).1).trans HN.out
        have c0 : w5.cell? ⟨w3.heap.size, 0, none⟩ = some (.int .u64 (p1 : Int)) := Lib.cell_of_heap hn5 0
        have c1 : w5.cell? ⟨w3.heap.size, 1, none⟩ = some (.int .i64 (p2 : Int)) := Lib.cell_of_heap hn5 1
        have q1 : p2 < k → mm = 0 := fun h => by rw [← HFX.out]; exact HLA.out (j + 1) (by omega) (by omega) (by omega)
        have q2 : p2 = k → mm = p1 := fun h => by rw [← HFX.out]; exact HLB.out (j + 1) (by omega) (by omega) (by omega)
        clear hb5 hn5 KR KM
        by_cases hc1 : p2 < k
        · obtain rfl := q1 hc1
          have g1 : (p2 : Int) < (k : Int) := by omega
          have g2 : ((k : Int) == (p2 : Int)) = false := by rw [beq_eq_false_iff_ne]; omega
          have g3 : ¬ (k : Int) = (p2 : Int) := by omega
          have g4 : decide (p2 < k) = true := decide_eq_true hc1
          have g5 : decide ((p2 : Int) < (k : Int)) = true := decide_eq_true g1
          clear q1 q2
          go_wp2_with fail
          refine ⟨⟨j + 1, by omega, by show Value.int .i64 ((k : Int) + 1) = _; rw [show ((a + (j + 1) + 1 : Nat) : Int) = (k : Int) + 1 by omega], HBR5⟩, ?_⟩
          show s.size + 1 - ((k : Int) + 1).toNat < s.size + 1 - ((k : Int)).toNat
          omega
        · have g1 : ¬ (p2 : Int) < (k : Int) := by omega
          have g4 : decide (p2 < k) = false := decide_eq_false hc1
          have g5 : decide ((p2 : Int) < (k : Int)) = false := decide_eq_false g1
          by_cases hc2 : p2 = k
          · obtain rfl := q2 hc2
            subst hc2
            clear q1 q2
            go_wp2_with fail
            refine ⟨⟨j + 1, by omega, by show Value.int .i64 ((p2 : Int) + 1) = _; rw [show ((a + (j + 1) + 1 : Nat) : Int) = (p2 : Int) + 1 by omega], HBR5⟩, ?_⟩
            show s.size + 1 - ((p2 : Int) + 1).toNat < s.size + 1 - ((p2 : Int)).toNat
            omega
          · have g2 : ((k : Int) == (p2 : Int)) = false := by rw [beq_eq_false_iff_ne]; omega
            have g3 : ¬ (k : Int) = (p2 : Int) := by omega
            clear q1 q2
            go_wp2_with fail
            refine ⟨⟨j + 1, by omega, by show Value.int .i64 ((k : Int) + 1) = _; rw [show ((a + (j + 1) + 1 : Nat) : Int) = (k : Int) + 1 by omega], HBR5⟩, ?_⟩
            show s.size + 1 - ((k : Int) + 1).toNat < s.size + 1 - ((k : Int)).toNat
            omega
      · have h1 : ¬ (k : Int) ≤ (s.size : Int) := by omega
        have hn5 := HN.out
        have c0 : wr.cell? ⟨w3.heap.size, 0, none⟩ = some (.int .u64 (p1 : Int)) := Lib.cell_of_heap hn5 0
        have c1 : wr.cell? ⟨w3.heap.size, 1, none⟩ = some (.int .i64 (p2 : Int)) := Lib.cell_of_heap hn5 1
        have KI := B1.In_any p1 may HLL.out hmay wr
        rw [HLI.out] at KI
        have KI := hid KI
        have g1 : (a : Int) ≤ (p2 : Int) := by have := HLE.out.1; omega
        have g2 : (p2 : Int) ≤ (s.size : Int) := by have := HLE.out.2; omega
        have gz := HLZ.out
        clear hn5
        by_cases hp : p1 = 0
        · have hpa : p2 = a := gz.1 hp
          subst hp hpa
          clear gz
          go_wp2_with fail
          refine KI.out.mono ?_
          rintro e w' ⟨rfl, rfl⟩
          go_wp2_with fail
          go_ret
          exact ⟨rfl, HBr.out⟩
        · have hpa : ¬ p2 = a := fun e => hp (gz.2 e)
          have g3 : ((p1 : Int) == 0) = false := by rw [beq_eq_false_iff_ne]; omega
          have g4 : ((p2 : Int) == (a : Int)) = false := by rw [beq_eq_false_iff_ne]; omega
          clear gz
          go_wp2_with fail
          refine KI.out.mono ?_
          rintro e w' ⟨rfl, rfl⟩
          go_wp2_with fail
          go_ret
          exact ⟨rfl, HBr.out⟩
end Go.Proofs.YtochckefnjobhaaGreatDoor
