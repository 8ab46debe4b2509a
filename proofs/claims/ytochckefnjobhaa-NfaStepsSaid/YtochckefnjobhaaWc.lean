/- The law NfaMany of package nfa: its walk. -/
import Derived.Test.YtochckefnjobhaaWb
namespace Go.Proofs.Ytochckefnjobhaa
open Go Go.RowKit Go.Lib
open X3 (RX Pl)
set_option linter.unusedVariables false
set_option linter.unusedSimpArgs false

theorem wp_region_below {P : Program} {id : Nat} {Q : Exit → Act → World → Prop} {a : Act} {w : World} {l : List Oper} (hm : P.follows .mixedOrders = true) (hB : Region.lexB .any l.toArray = true)
    (h : wpQuiet P l.toArray (Below w.heap.size w) (fun a' => ∀ w', Below w.heap.size w w' → Q .normal a' w') l a) : (Code.region id l.toArray true).wp P Q a w :=
  wp_region_quiet (C := Below w.heap.size w) hm hB (below_drewN (Below.refl _ _) 1) (by simpa using h)
theorem below_call {P : Program} {f : FuncId} {args : Array Value} {n : Nat} {w0 w' : World} {v : Value} (hC : Below n w0 w') (hn : n ≤ w0.heap.size) (h : Calls P f args w' fun e w'' => e = .returned v ∧ Below w'.heap.size w' w'') :
    Calls P f args w' fun e w'' => e = .returned v ∧ Below n w0 w'' :=
  h.mono fun _ _ ⟨he, hb⟩ => ⟨he, hC.trans (hb.mono (Nat.le_trans hn hC.size))⟩

theorem parse_size {s : List UInt8} {r : RX} (h : X3.parseX s = .inr r) : r.size ≤ 500 := by
  unfold X3.parseX at h
  split at h
  · cases h
  · split at h
    · cases h
    · split at h
      · cases h
      · split at h
        · cases h
        · injection h with h; subst h; omega
/-- What Parse hands back is some regex, whatever the text. -/
theorem parse_some (s : ByteArray) (w : World) (hm : s.size ≤ maxLen) : ∃ (E : Int) (R : RX), R.size ≤ 500 ∧ Calls Try.prog 9 #[.string s] w fun e w' => ∃ (k x y z u : Int) (o : Option Addr) (n cc : Nat), e = .returned (.tuple #[nodeV k x y z u (.slice o n cc), .int .i64 E]) ∧ Below w.heap.size w w' ∧ Rep w.heap.size w' R (nodeV k x y z u (.slice o n cc)) := by
  have hp := parse_any s w hm
  cases hX : X3.parseX (LL s) with
  | inl c =>
    rw [hX] at hp
    refine ⟨(c : Int), .empty, by simp [X3.RX.size], hp.mono ?_⟩
    rintro e w' ⟨rfl, hb⟩
    exact ⟨0, 0, 0, 0, 0, none, 0, 0, rfl, hb, .empty⟩
  | inr r =>
    rw [hX] at hp
    refine ⟨0, r, parse_size hX, hp.mono ?_⟩
    rintro e w' ⟨v, rfl, hR, hb⟩
    obtain ⟨k, x, y, z, u, o, n, c, rfl⟩ := hR.shape
    exact ⟨k, x, y, z, u, o, n, c, rfl, hb, hR⟩

theorem size_rep (R : RX) (n : Nat) : X3.sizeL (List.replicate n R) = n * R.size := by
  induction n with
  | zero => simp [X3.sizeL]
  | succ n ih => rw [List.replicate_succ, X3.sizeL, ih, Nat.add_mul, Nat.one_mul, Nat.add_comm]

set_option maxRecDepth 100000 in
set_option maxHeartbeats 8000000 in
theorem many_walk (s : ByteArray) (n : Int) (w : World) (hs : s.size ≤ maxLen) : Calls Try.prog 3 #[.string s, .int .i64 n] w fun e w' => e = .returned (.bool true) ∧ Below w.heap.size w w' := by
  have HS := hid hs
  clear hs
  by_cases h200 : 200 < s.size
  · have g1 : (200 : Int) < (s.size : Int) := by omega
    go_enter Try.func3, Try.ntmps3
    go_wp2_with fail
    refine (works _).mono ?_
    rintro e w1 ⟨rfl, hb1⟩
    have HB1 := hid hb1
    clear hb1
    go_wp2_with fail
    go_ret
    exact ⟨rfl, HB1.out⟩
  have g1 : ¬ (200 : Int) < (s.size : Int) := by omega
  by_cases hn0 : n < 0
  · go_enter Try.func3, Try.ntmps3
    go_wp2_with fail
    refine (works _).mono ?_
    rintro e w1 ⟨rfl, hb1⟩
    have HB1 := hid hb1
    clear hb1
    go_wp2_with fail
    go_ret
    exact ⟨rfl, HB1.out⟩
  by_cases hn80 : 80 < n
  · go_enter Try.func3, Try.ntmps3
    go_wp2_with fail
    refine (works _).mono ?_
    rintro e w1 ⟨rfl, hb1⟩
    have HB1 := hid hb1
    clear hb1
    go_wp2_with fail
    go_ret
    exact ⟨rfl, HB1.out⟩
  obtain ⟨N, rfl⟩ : ∃ N : Nat, n = (N : Int) := ⟨n.toNat, by omega⟩
  have hN80 : N ≤ 80 := by omega
  go_enter Try.func3, Try.ntmps3
  go_wp2_with fail
  refine (works _).mono ?_
  rintro e w1 ⟨rfl, hb1⟩
  have HB1 := hid hb1
  have hsz1 := hb1.size
  obtain ⟨E, R, hRz, hKP⟩ := parse_some s w1 HS.out
  have KP := hid hKP
  clear hKP hb1
  go_wp2_with fail
  refine KP.out.mono ?_
  rintro e w2 ⟨k, x, y, z, u, o, nn, cc, rfl, hb2, hR⟩
  have hR2 : RepS (fun g => g < w2.heap.size) w2 R (nodeV k x y z u (.slice o nn cc)) := hR.monoS fun g _ hl => hl
  obtain ⟨wa, ea, hx, hba, hsa⟩ := box_new hR2
  have HX := hid hx
  have HBA := hid (HB1.out.trans ((hb2.trans (hba.mono hb2.size)).mono hsz1))
  have HRR : Hid (RepS (fun g => w1.heap.size ≤ g ∧ g < w2.heap.size) wa R (nodeV k x y z u (.slice o nn cc))) := hid ((hR.monoS (S' := fun g => w1.heap.size ≤ g ∧ g < w2.heap.size) (fun g h1 hl => ⟨h1, hl⟩)).kept (keepS_below hba))
  have HSA := hid (And.intro hb2.size hsa)
  clear hR hR2 hx hba hsa hb2
  by_cases hE : E = 0
  · subst hE
    go_wp2_with fail
    clear ea
    go_loopw [8, 9] (fun t8 t9 wr => ∃ j : Nat, j ≤ N ∧ t9 = .int .i64 (j : Int) ∧ Hid (RowOf w1.heap.size wr t8 (List.replicate j R)) ∧ Hid (∀ g, t8.ownBlock = some g → wa.heap.size ≤ g) ∧ Below wa.heap.size wa wr) (fun _ t9 _ => N - (RowKit.intOf t9).toNat)
    case atStart => exact ⟨0, Nat.zero_le _, rfl, hid (RowOf.nil _ _), hid (fun g h => by cases h), Below.refl _ _⟩
    case round =>
      obtain ⟨j, hj, rfl, HRow, HO, hB⟩ := hrel
      have hszr := hB.size
      have HXr := hid (HX.out.next hB)
      by_cases hlt : j < N
      · have h1 : (j : Int) < (N : Int) := by omega
        obtain ⟨p0, p1, p2, p3, p4, p5⟩ := cells6 HXr.out.1
        obtain ⟨w3, e3⟩ : ∃ w3, wr.alloc (.cells #[.int .i64 k, .int .u64 x, .int .u64 y, .int .u64 z, .int .u64 u, .slice o nn cc] 28) = w3 := ⟨_, rfl⟩
        have hb3 : Below wr.heap.size wr w3 := by rw [← e3]; exact (Below.refl _ _).alloc (Nat.le_refl _) _
        have hn3 : w3.heap[wr.heap.size]? = some (.cells #[.int .i64 k, .int .u64 x, .int .u64 y, .int .u64 z, .int .u64 u, .slice o nn cc] 28 (0, 0)) := by rw [← e3]; exact new_block _ _
        have hs3 : w3.heap.size = wr.heap.size + 1 := by rw [← e3]; simp
        obtain ⟨VS, hreps, hown⟩ := HRow.out.below hb3
        rw [List.length_replicate] at hown
        obtain ⟨i0, hi, hz0, hz1, hz2⟩ := info_parts info28
        have HREPS := hid hreps
        have HOWN := hid hown
        have hwa : w1.heap.size ≤ w2.heap.size := HSA.out.1
        have hwa2 : wa.heap.size = w2.heap.size + 1 := HSA.out.2
        have hRw3 : RepS (fun g => w1.heap.size ≤ g ∧ some g ≠ u8.ownBlock) w3 R (nodeV k x y z u (.slice o nn cc)) := by
          have h5 := (HRR.out.monoS (S' := fun g => (w1.heap.size ≤ g ∧ some g ≠ u8.ownBlock) ∧ g < wa.heap.size) (fun g h1 hl => ⟨⟨h1.1, fun e => by have := HO.out g e.symm; omega⟩, hl⟩)).kept (w' := w3) ⟨Nat.le_trans hszr hb3.size, fun g h1 hl => ((hb3.block g (by omega)).trans (hB.block g h1.2))⟩
          exact h5.monoS fun g h1 _ => h1.1
        have HRW := hid hRw3
        have HBR := hid (hB.trans (hb3.mono hszr))
        have hw13 : w1.heap.size ≤ w3.heap.size := by omega
        have hsz13 := hs3
        have HS3 := hid hs3
        clear hreps hown hRw3 hB hb3 hwa2 hs3 hsz13
        go_wp2_with (at_builtin; go_loud (refine wpList_append_own_at _ rfl _ _ 26 rfl w1.heap.size 28 i0 (.agg zero6) 6 64 Try.underlying26 hi hz0 hz1 hz2 rfl (by decide) _ _ _ rfl HOWN.out ⟨wr.heap.size, 0, none⟩ 1 1 [.int .i64 k, .int .u64 x, .int .u64 y, .int .u64 z, .int .u64 u, .slice o nn cc] rfl rfl ?c1 ?c2 ?c3 ?c4 ?c5 ?_))
        case c1 =>
          intro j v hj
          have := Lib.cell_of_heap hn3 j
          first | rw [show (⟨wr.heap.size, 0, none⟩ : Addr).add j = ⟨wr.heap.size, j, none⟩ by simp [Addr.add]; omega] | skip
          rw [this, ← hj]
          simp
        case c2 => first | (intro v hv; simp at hv; rcases hv with rfl | rfl | rfl | rfl | rfl | rfl <;> rfl) | simp [Value.oneCell']
        case c3 => unfold maxLen; omega
        case c4 => omega
        try (case c5 => exact hw13)
        intro v' w4 hown' hgrow hnil hat
        have hrow4 : Hid (RowOf w1.heap.size w4 v' (List.replicate (j + 1) R)) := hid (by
          rw [List.replicate_succ']
          exact row_push2 HREPS.out HRW.out (by rw [List.length_replicate]; exact hown') hgrow hat)
        have hO4 : Hid (∀ g, v'.ownBlock = some g → wa.heap.size ≤ g) := hid fun g hg => by
          rcases hat with e | e
          · rw [e] at hg; exact HO.out g hg
          · rw [e] at hg; have := Option.some.inj hg; have := HS3.out; omega
        have hB4 : Below wa.heap.size wa w4 := HBR.out.grown hgrow (by have := HS3.out; omega) (fun q hq => HO.out q hq)
        have HB4 := hid hB4
        clear hown' hgrow hnil hat hB4 hn3 e3
        go_wp2_with fail
        refine ⟨⟨j + 1, by omega, rfl, hrow4, hO4, HB4.out⟩, ?_⟩
        show N - ((j : Int) + 1).toNat < N - ((j : Int)).toNat
        omega
      · have h1 : ¬ (j : Int) < (N : Int) := by omega
        obtain rfl : j = N := by omega
        have hRowR := RowR.ofRow HRow.out
        have hbig : ∀ k (hk : k < (List.replicate j R).length), (List.replicate j R)[k].size ≤ 1000000 := fun k hk => by rw [List.getElem_replicate]; omega
        have KB := hid (build_any _ _ wr _ hRowR (fun g hg => hg) hbig (by rw [List.length_replicate]; omega))
        have HB := hid (HBA.out.trans (hB.mono HBA.out.size))
        have HRo := hid hRowR
        have HBig := hid hbig
        clear hB hRowR hbig
        go_wp2_with fail
        refine KB.out.mono ?_
        rintro e w5 ⟨hb5, hP⟩
        have HB5 := hid (HB.out.trans (hb5.mono HB.out.size))
        have HX5 := hid (HXr.out.next hb5)
        have HRo5 := hid (HRo.out.below hb5)
        clear hb5
        have hj' : j ≤ 80 := by omega
        rcases hP with ⟨hm, rfl⟩ | ⟨hnm, m, T, pv, AS, bv, A0, rfl, hNf⟩
        · by_cases h60 : 60 < j
          · have h2 : (60 : Int) < (j : Int) := by omega
            clear hm
            go_upto_region 16 with fail
            refine wp_region_below (by kernel_rfl) (by kernel_rfl) ?_
            repeat (first
              | (refine BigFrame.wpQuiet_skip (by rfl) ?_; try simp only [Act.put, List.setIfInBounds_toArray, List.set_cons_zero, List.set_cons_succ])
              | (refine BigFrame.wpQuiet_want (by rfl) (fun K hK => ?_)
                 apply Exists.intro
                 refine ⟨fun w' hC => ?_, hK _ ?_⟩
                 · skip
                   obtain ⟨p0, p1, p2, p3, p4, p5⟩ := cells6 (HX5.out.next hC).1
                   unfold Oper.quietAt
                   go_simp
                   first
                     | with_reducible rfl
                     | done
                     | exact below_call hC (Nat.le_refl _) (sizeN_any _ _ _ _ _ (Nat.le_refl _) (Nat.lt_of_le_of_lt hRz (by decide)) (HX5.out.next hC).2)
                     | exact below_call hC (Nat.le_refl _) (sizeR_any _ _ _ _ _ (Nat.le_refl _) (Nat.lt_of_le_of_lt hRz (by decide)) (HX5.out.next hC).2)
                 clear hK K
                 try simp only [Act.put, List.setIfInBounds_toArray, List.set_cons_zero, List.set_cons_succ]))
            refine wpQuiet_nil ?_
            intro w' hb
            have HE := hid hb
            clear hb
            go_wp2_with fail
            go_ret
            exact ⟨rfl, HB5.out.trans (HE.out.mono HB5.out.size)⟩
          · have h2 : ¬ (60 : Int) < (j : Int) := by omega
            have hsl : X3.sizeL (List.replicate j R) ≤ 40000 := by rw [size_rep]; exact Nat.mul_le_mul hj' hRz
            have KSz := hid (sizes_any _ w5 _ HRo5.out HBig.out (by omega))
            have h3 : (3000 : Int) < (X3.sizeL (List.replicate j R) : Int) := by
              rcases hm with h | h
              · rw [List.length_replicate] at h; omega
              · omega
            clear hm
            go_wp2_with fail
            refine KSz.out.mono ?_
            rintro e w6 ⟨rfl, hb6⟩
            have HX6 := hid (HX5.out.next hb6)
            have HB6 := hid (HB5.out.trans (hb6.mono HB5.out.size))
            clear hb6
            go_upto_region 16 with fail
            refine wp_region_below (by kernel_rfl) (by kernel_rfl) ?_
            repeat (first
              | (refine BigFrame.wpQuiet_skip (by rfl) ?_; try simp only [Act.put, List.setIfInBounds_toArray, List.set_cons_zero, List.set_cons_succ])
              | (refine BigFrame.wpQuiet_want (by rfl) (fun K hK => ?_)
                 apply Exists.intro
                 refine ⟨fun w' hC => ?_, hK _ ?_⟩
                 · skip
                   obtain ⟨p0, p1, p2, p3, p4, p5⟩ := cells6 (HX6.out.next hC).1
                   unfold Oper.quietAt
                   go_simp
                   first
                     | with_reducible rfl
                     | done
                     | exact below_call hC (Nat.le_refl _) (sizeN_any _ _ _ _ _ (Nat.le_refl _) (Nat.lt_of_le_of_lt hRz (by decide)) (HX6.out.next hC).2)
                     | exact below_call hC (Nat.le_refl _) (sizeR_any _ _ _ _ _ (Nat.le_refl _) (Nat.lt_of_le_of_lt hRz (by decide)) (HX6.out.next hC).2)
                 clear hK K
                 try simp only [Act.put, List.setIfInBounds_toArray, List.set_cons_zero, List.set_cons_succ]))
            refine wpQuiet_nil ?_
            intro w' hb
            have HE := hid hb
            clear hb
            go_wp2_with fail
            go_ret
            exact ⟨rfl, HB6.out.trans (HE.out.mono HB6.out.size)⟩
        · have h2 : ¬ (60 : Int) < (j : Int) := fun h => hnm (.inl (by rw [List.length_replicate]; omega))
          have hsl : X3.sizeL (List.replicate j R) ≤ 40000 := by rw [size_rep]; exact Nat.mul_le_mul hj' hRz
          have KSz := hid (sizes_any _ w5 _ HRo5.out HBig.out (by omega))
          have h3 : ¬ (3000 : Int) < (X3.sizeL (List.replicate j R) : Int) := fun h => hnm (.inr (by omega))
          have HD2 := hid (decide_eq_false h2)
          have HD3 := hid (decide_eq_false h3)
          clear hnm hNf
          go_wp2_with fail
          refine KSz.out.mono ?_
          rintro e w6 ⟨rfl, hb6⟩
          have HX6 := hid (HX5.out.next hb6)
          have HB6 := hid (HB5.out.trans (hb6.mono HB5.out.size))
          clear hb6
          go_upto_region 16 with fail
          rw [HD2.out, HD3.out, Bool.or_self]
          refine wp_region_below (by kernel_rfl) (by kernel_rfl) ?_
          repeat (first
            | (refine BigFrame.wpQuiet_skip (by rfl) ?_; try simp only [Act.put, List.setIfInBounds_toArray, List.set_cons_zero, List.set_cons_succ])
            | (refine BigFrame.wpQuiet_want (by rfl) (fun K hK => ?_)
               apply Exists.intro
               refine ⟨fun w' hC => ?_, hK _ ?_⟩
               · skip
                 obtain ⟨p0, p1, p2, p3, p4, p5⟩ := cells6 (HX6.out.next hC).1
                 unfold Oper.quietAt
                 go_simp
                 first
                   | with_reducible rfl
                   | done
                   | exact below_call hC (Nat.le_refl _) (sizeN_any _ _ _ _ _ (Nat.le_refl _) (Nat.lt_of_le_of_lt hRz (by decide)) (HX6.out.next hC).2)
                   | exact below_call hC (Nat.le_refl _) (sizeR_any _ _ _ _ _ (Nat.le_refl _) (Nat.lt_of_le_of_lt hRz (by decide)) (HX6.out.next hC).2)
               clear hK K
               try simp only [Act.put, List.setIfInBounds_toArray, List.set_cons_zero, List.set_cons_succ]))
          refine wpQuiet_nil ?_
          intro w' hb
          have HE := hid hb
          clear hb
          go_wp2_with fail
          go_ret
          exact ⟨rfl, HB6.out.trans (HE.out.mono HB6.out.size)⟩
  · have hE2 : (E == 0) = false := by simpa using hE
    have hE3 : decide (E = 0) = false := by simpa using hE
    go_wp2_with fail
    go_ret
    exact ⟨rfl, HBA.out⟩
end Go.Proofs.Ytochckefnjobhaa
