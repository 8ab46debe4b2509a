/- word.Words, at every text. -/
import Derived.Test.YtonofnjgefoieaaDoorCh
namespace Go.Proofs.YtonofnjgefoieaaDoor
open Go Go.RowKit Go.Lib Go.Proofs.W8
set_option linter.unusedVariables false

theorem WRow.below {B : Nat} {v : Value} {L : List Wd} {w w' : World} (h : WRow B v L w) (hb : Below w.heap.size w w') : WRow B v L w' := by
  refine ⟨h.1, ?_⟩
  rcases h.2 with hn | ⟨g, cap, cur, rfl, hB, hg, rest⟩
  · exact .inl hn
  · exact .inr ⟨g, cap, cur, rfl, hB, (Below.block hb g (heap_lt hg)).trans hg, rest⟩

theorem Wr_skip {l : List UInt8} {a : Nat} {acc : List Wd} {r} (h : Wr l a acc r) (hl : l ≠ []) {k : Nat} (e : stp l = .skip k) : Wr (l.drop k) (a + k) acc r := by
  cases h with
  | done => exact absurd rfl hl
  | skip _ _ _ k' _ _ h2 h3 => rw [e] at h2; injection h2 with e2; subst e2; exact h3
  | nl _ _ _ _ _ h2 => rw [e] at h2; cases h2
  | wd _ _ _ _ _ _ _ _ _ h2 => rw [e] at h2; cases h2
  | bad _ _ _ _ _ h2 => rw [e] at h2; cases h2
theorem Wr_nl {l : List UInt8} {a : Nat} {acc : List Wd} {r} (h : Wr l a acc r) (hl : l ≠ []) (e : stp l = .nl) : Wr (l.drop 1) (a + 1) (enL acc a) r := by
  cases h with
  | done => exact absurd rfl hl
  | skip _ _ _ k' _ _ h2 h3 => rw [e] at h2; cases h2
  | nl _ _ _ _ _ h2 h3 => exact h3
  | wd _ _ _ _ _ _ _ _ _ h2 => rw [e] at h2; cases h2
  | bad _ _ _ _ _ h2 => rw [e] at h2; cases h2
theorem Wr_wd {l : List UInt8} {a : Nat} {acc : List Wd} {r} (h : Wr l a acc r) (hl : l ≠ []) {k n long : Nat} {t : List UInt8} (e : stp l = .wd k t n long) : Wr (l.drop long) (a + long) (acc ++ [⟨k, t, n, a⟩]) r := by
  cases h with
  | done => exact absurd rfl hl
  | skip _ _ _ k' _ _ h2 h3 => rw [e] at h2; cases h2
  | nl _ _ _ _ _ h2 h3 => rw [e] at h2; cases h2
  | wd _ _ _ _ _ _ _ _ _ h2 h3 => rw [e] at h2; injection h2 with e1 e2 e3 e4; subst e1 e2 e3 e4; exact h3
  | bad _ _ _ _ _ h2 => rw [e] at h2; cases h2
theorem Wr_bad {l : List UInt8} {a : Nat} {acc : List Wd} {r} (h : Wr l a acc r) (hl : l ≠ []) {k : Nat} (e : stp l = .bad k) : r = (acc, k, a) := by
  cases h with
  | done => exact absurd rfl hl
  | skip _ _ _ k' _ _ h2 h3 => rw [e] at h2; cases h2
  | nl _ _ _ _ _ h2 h3 => rw [e] at h2; cases h2
  | wd _ _ _ _ _ _ _ _ _ h2 h3 => rw [e] at h2; cases h2
  | bad _ _ _ _ _ h2 => rw [e] at h2; injection h2 with e2; subst e2; rfl
theorem Wr_end {a : Nat} {acc : List Wd} {r} (h : Wr [] a acc r) : r = (enL acc a, 0, 0) := by
  cases h with
  | done => rfl
  | skip _ _ _ k' _ hl => exact absurd rfl hl
  | nl _ _ _ _ hl => exact absurd rfl hl
  | wd _ _ _ _ _ _ _ _ hl => exact absurd rfl hl
  | bad _ _ _ _ hl => exact absurd rfl hl

theorem enL_len (L : List Wd) (a : Nat) : (enL L a).length ≤ L.length + 1 := by
  unfold enL
  split
  · omega
  · split
    · omega
    · simp

/-- What Words hands back, and where. -/
def WordsPost (w : World) (r : List Wd × Nat × Nat) (e : Ending) (w' : World) : Prop :=
  ∃ v, e = .returned (.tuple #[v, .int .i64 (r.2.1 : Int), .int .i64 (r.2.2 : Int)]) ∧ WRow w.heap.size v r.1 w' ∧ Below w.heap.size w w'

theorem drop_ext (s : ByteArray) (k : Nat) : (s.extract k s.size).data.toList = s.data.toList.drop k := by
  have : s.data.toList.length = s.size := rfl
  simp only [ByteArray.data_extract, Array.toList_extract, List.extract_eq_take_drop]
  rw [List.take_of_length_le]
  rw [List.length_drop]; omega

theorem Words_long (s : ByteArray) (w : World) (hs : 20000 < s.size) (hm : s.size ≤ maxLen) : Calls Tryd.prog 14 #[.string s] w (WordsPost w (words s.data.toList)) := by
  have hw : words s.data.toList = ([], 4, 0) := by
    have : s.data.toList.length = s.size := rfl
    unfold words; rw [if_pos (by omega)]
  rw [hw]
  unfold maxLen at hm
  have hs' : (20000 : Int) < (s.size : Int) := by omega
  go_enter Tryd.func14, Tryd.ntmps14
  go_wp2_with fail
  go_ret3
  exact ⟨_, rfl, World.ownsRow_nil _ _ _ _, Below.refl _ _⟩

set_option maxRecDepth 100000 in
set_option maxHeartbeats 4000000 in
theorem Words_short (s : ByteArray) (w : World) (hs : s.size ≤ 20000) : Calls Tryd.prog 14 #[.string s] w (WordsPost w (words s.data.toList)) := by
  have hlen : s.data.toList.length = s.size := rfl
  have hW0 := words_Wr (l := s.data.toList) (by omega)
  generalize words s.data.toList = R at *
  have HW0 := hid hW0
  clear hW0 hlen
  go_enter Tryd.func14, Tryd.ntmps14
  go_wp2_with fail
  go_loopw [5, 6] (fun l a wr => ∃ (k : Nat) (acc : List Wd), k ≤ s.size ∧ a = .int .i64 (k : Int) ∧ WRow w.heap.size l acc wr ∧ Below w.heap.size w wr ∧ acc.length ≤ k ∧ Wr (s.data.toList.drop k) k acc R) (fun _ a _ => s.size - (Go.RowKit.intOf a).toNat)
  case atStart => exact ⟨0, [], Nat.zero_le _, rfl, World.ownsRow_nil _ _ _ _, Below.refl _ _, Nat.le_refl _, by simpa using HW0.out⟩
  case round =>
    obtain ⟨k, acc, hk, rfl, hrow, hbw, hal, hq⟩ := hrel
    have HQ := hid hq
    have HR := hid (show WRow w.heap.size u5 acc wr from hrow)
    have hwz := hbw.size
    clear hq hrow HW0
    by_cases hlt : k < s.size
    · have HD := hid (drop_ext s k)
      have hts : (s.extract k s.size).size = s.size - k := by rw [ByteArray.size_extract]; omega
      have hp : 0 < (s.extract k s.size).size := by omega
      have hb256 := byte_lt ((s.extract k s.size)[0]'hp)
      have hne : Hid (s.data.toList.drop k ≠ []) := by
        intro e
        have := congrArg List.length e
        simp at this; omega
      have hhd : Hid (s.data.toList.drop k = (s.extract k s.size)[0]'hp :: s.data.toList.drop (k + 1)) := by
        have e0 := drop_at s k hlt
        have e1 := drop_at (s.extract k s.size) 0 hp
        show _ = _
        rw [drop_ext, List.drop_zero, e0] at e1
        injection e1 with e2 e3
        rw [e0, e2]
      by_cases hbl : ((s.extract k s.size)[0]'hp).toNat = 32 ∨ ((s.extract k s.size)[0]'hp).toNat = 9 ∨ ((s.extract k s.size)[0]'hp).toNat = 13
      · have hS : stp (s.data.toList.drop k) = .skip 1 := by rw [hhd.out]; simp only [stp, if_pos hbl]
        have HN : Hid (Wr (s.data.toList.drop (k + 1)) (k + 1) acc R) := by
          have := Wr_skip HQ.out hne.out hS
          rw [List.drop_drop] at this; exact this
        clear hS hts
--B
        have hbl2 : ((s.extract k s.size)[0]'hp).toNat = 32 ∨ (((s.extract k s.size)[0]'hp).toNat ≠ 32 ∧ ((s.extract k s.size)[0]'hp).toNat = 9) ∨ (((s.extract k s.size)[0]'hp).toNat ≠ 32 ∧ ((s.extract k s.size)[0]'hp).toNat ≠ 9 ∧ ((s.extract k s.size)[0]'hp).toNat = 13) := by omega
        clear hbl
        rcases hbl2 with h | ⟨h1, h2⟩ | ⟨h1, h2, h3⟩
        · have t1 : ((((s.extract k s.size)[0]'hp).toNat : Int) == 32) = true := by simp; omega
          clear h
          clear HQ HD hne hhd
          go_wp2_with fail
          go_roundw
          case rel => exact ⟨k + 1, acc, by omega, by go_num, HR.out, hbw, by omega, HN.out⟩
          case measure => simp [Go.RowKit.intOf]; omega
        · have t1 : ((((s.extract k s.size)[0]'hp).toNat : Int) == 32) = false := by simp; omega
          have t2 : ((((s.extract k s.size)[0]'hp).toNat : Int) == 9) = true := by simp; omega
          clear h1 h2
          clear HQ HD hne hhd
          go_wp2_with fail
          go_roundw
          case rel => exact ⟨k + 1, acc, by omega, by go_num, HR.out, hbw, by omega, HN.out⟩
          case measure => simp [Go.RowKit.intOf]; omega
        · have t1 : ((((s.extract k s.size)[0]'hp).toNat : Int) == 32) = false := by simp; omega
          have t2 : ((((s.extract k s.size)[0]'hp).toNat : Int) == 9) = false := by simp; omega
          have t3 : ((((s.extract k s.size)[0]'hp).toNat : Int) == 13) = true := by simp; omega
          clear h1 h2 h3
          clear HQ HD hne hhd
          go_wp2_with fail
          go_roundw
          case rel => exact ⟨k + 1, acc, by omega, by go_num, HR.out, hbw, by omega, HN.out⟩
          case measure => simp [Go.RowKit.intOf]; omega
      · have n32 : ((s.extract k s.size)[0]'hp).toNat ≠ 32 := by omega
        have n9 : ((s.extract k s.size)[0]'hp).toNat ≠ 9 := by omega
        have n13 : ((s.extract k s.size)[0]'hp).toNat ≠ 13 := by omega
        have t1 : ((((s.extract k s.size)[0]'hp).toNat : Int) == 32) = false := by simp; omega
        have t2 : ((((s.extract k s.size)[0]'hp).toNat : Int) == 9) = false := by simp; omega
        have t3 : ((((s.extract k s.size)[0]'hp).toNat : Int) == 13) = false := by simp; omega
        by_cases h35 : ((s.extract k s.size)[0]'hp).toNat = 35
        · have hS : stp (s.data.toList.drop k) = .skip (runL no10 (s.data.toList.drop k)) := by
            rw [hhd.out]; simp only [stp, if_neg hbl, if_pos h35]
          have hle := (stp_skip hS)
          have hdl : (s.data.toList.drop k).length = s.size - k := by rw [List.length_drop]; rfl
          rw [hdl] at hle
          have HN : Hid (Wr (s.data.toList.drop (k + runL no10 (s.data.toList.drop k))) (k + runL no10 (s.data.toList.drop k)) acc R) := by
            have := Wr_skip HQ.out hne.out hS
            rw [List.drop_drop] at this; exact this
          have kr := hid fun w => run_line (s.extract k s.size) w (by unfold maxLen; omega)
          rw [HD.out] at kr
          have t4 : ((((s.extract k s.size)[0]'hp).toNat : Int) == 35) = true := by simp; omega
          clear hS hts hbl h35 n32 n9 n13 hdl HQ hne hhd HD
          generalize runL no10 (s.data.toList.drop k) = L at *
          go_wp2_with fail
          refine (kr.out _).mono ?_
          rintro e w1 ⟨rfl, hb1⟩
          go_wp2_with fail
          go_roundw
          case rel => exact ⟨k + L, acc, by omega, by go_num, HR.out.below hb1, hbw.trans (hb1.mono hwz), by omega, HN.out⟩
          case measure => simp [Go.RowKit.intOf]; omega
        · have t4 : ((((s.extract k s.size)[0]'hp).toNat : Int) == 35) = false := by simp; omega
          by_cases h10 : ((s.extract k s.size)[0]'hp).toNat = 10
          · have hS : stp (s.data.toList.drop k) = .nl := by
              rw [hhd.out]; simp only [stp, if_neg hbl, if_neg h35, if_pos h10]
            have HN : Hid (Wr (s.data.toList.drop (k + 1)) (k + 1) (enL acc k) R) := by
              have := Wr_nl HQ.out hne.out hS
              rw [List.drop_drop] at this; exact this
            have he := enL_len acc k
            have ke := hid (ended_any w.heap.size k u5 acc wr HR.out (by omega) hwz)
            have t5 : ((((s.extract k s.size)[0]'hp).toNat : Int) == 10) = true := by simp; omega
            clear hS hts hbl h35 h10 n32 n9 n13 HQ hne hhd HD
            go_wp2_with fail
            refine ke.out.mono ?_
            rintro e w1 ⟨v', rfl, hr1, hb1⟩
            have HR1 := hid hr1
            clear hr1
            go_wp2_with fail
            go_roundw
            case rel => exact ⟨k + 1, enL acc k, by omega, by go_num, HR1.out, hbw.trans hb1, by omega, HN.out⟩
            case measure => simp [Go.RowKit.intOf]; omega
          · have hS : stp (s.data.toList.drop k) = rd (s.data.toList.drop k) := by
              rw [hhd.out]; simp only [stp, if_neg hbl, if_neg h35, if_neg h10]
            have t5 : ((((s.extract k s.size)[0]'hp).toNat : Int) == 10) = false := by simp; omega
            have kr := hid fun w => read_any (s.extract k s.size) w (by omega) hp
            rw [HD.out] at kr
            have hnot := rd_not (l := s.data.toList.drop k)
            have hdl : (s.data.toList.drop k).length = s.size - k := by rw [List.length_drop]; rfl
            cases hrd : rd (s.data.toList.drop k) with
            | skip n => exact absurd hrd (hnot.1 n)
            | nl => exact absurd hrd hnot.2
            | bad e =>
              rw [hrd] at hS kr
              have HN := hid (Wr_bad HQ.out hne.out hS)
              have he := stp_bad hS
              have kr2 : Hid (∀ w : World, Calls Tryd.prog 25 #[.string (s.extract k s.size)] w fun x w' => x = .returned (.tuple #[wordV 0 ⟨#[]⟩ 0 0, .int .i64 0, .int .i64 (e : Int)]) ∧ Below w.heap.size w w') := kr.out
              have te : ((e : Int) != 0) = true := by simp; omega
              clear hS hts hbl h35 h10 n32 n9 n13 HQ hne hhd HD kr hrd hnot hdl he
              go_wp2_with fail
              refine (kr2.out _).mono ?_
              rintro x w1 ⟨rfl, hb1⟩
              have HR1 := hid (HR.out.below hb1)
              have hbw1 := hbw.trans (hb1.mono hwz)
              clear HR hb1 hbw
              go_wp2_with fail
              go_ret3
              exact ⟨u5, by rw [HN.out]; rfl, by rw [HN.out]; exact World.ownsRow.alloc HR1.out _, hbw1.alloc hbw1.size _⟩
            | wd kk t n long =>
              rw [hrd] at hS kr
              have HN : Hid (Wr (s.data.toList.drop (k + long)) (k + long) (acc ++ [⟨kk, t, n, k⟩]) R) := by
                have := Wr_wd HQ.out hne.out hS
                rw [List.drop_drop] at this; exact this
              have hle := stp_wd hS
              rw [hdl] at hle
              have kr2 : Hid (∀ w : World, Calls Tryd.prog 25 #[.string (s.extract k s.size)] w fun x w' => x = .returned (.tuple #[wordV (kk : Int) (bs t) (n : Int) 0, .int .i64 (long : Int), .int .i64 0]) ∧ Below w.heap.size w w') := kr.out
              clear hS hts hbl h35 h10 n32 n9 n13 HQ hne hhd HD kr hrd hnot hdl
              generalize hX : bs t = X at *
              have HX := hid hX
              clear hX
              go_wp2_with fail
              refine (kr2.out _).mono ?_
              rintro x w1 ⟨rfl, hb1⟩
              have HR1 := hid (HR.out.below hb1)
              have hbw1 := hbw.trans (hb1.mono hwz)
              have hz1s := hbw1.size
              clear HR hb1 hbw
              obtain ⟨i0, hi, hz0, hz1, hz2⟩ := info_parts info32
              have hr1 := HR1.out
              go_wp2_with (at_builtin; refine wpList_append_own _ rfl _ _ 26 rfl w.heap.size 32 i0 (.agg zeroW) 4 40 Tryd.underlying26 hi hz0 hz1 hz2 rfl (by decide) _ _ _ rfl ((hr1.alloc _).alloc _) ⟨w1.heap.size + 1, 0, none⟩ 1 1 [.int .i64 (kk : Int), .string X, .int .i64 (n : Int), .int .i64 (k : Int)] rfl rfl ?c1 ?c2 ?c3 ?c4 ?c5 ?_)
              case c1 =>
                intro j u hj
                have e1 : (w1.alloc (.cells #[.int .i64 (kk : Int), .string X, .int .i64 (n : Int), .int .i64 (k : Int)] 32)).heap.size = w1.heap.size + 1 := by simp
                have e2 := alloc_new (w1.alloc (.cells #[.int .i64 (kk : Int), .string X, .int .i64 (n : Int), .int .i64 (k : Int)] 32)) (.cells #[.int .i64 (kk : Int), .string X, .int .i64 (n : Int), .int .i64 (k : Int)] 32)
                rw [e1] at e2
                have e3 := Lib.cell_of_heap e2 j
                rw [show (⟨w1.heap.size + 1, 0, none⟩ : Addr).add j = ⟨w1.heap.size + 1, j, none⟩ by simp [Addr.add]; omega]
                rw [e3, ← hj]
                simp
              case c2 => intro u hu; simp at hu; rcases hu with rfl | rfl | rfl | rfl <;> rfl
              case c3 => unfold maxLen; omega
              case c4 => omega
              case c5 => simp; omega
              intro v' w2 hown' hgrow _
              have HO := hid hown'
              have hb2 : Below w.heap.size w w2 := ((hbw1.alloc hz1s _).alloc (by simp; omega) _).grown hgrow (by simp; omega) (fun q hq => (hr1.lt q hq).1)
              clear hown' hgrow hr1 hbw1
              go_wp2_with fail
              go_roundw
              case rel =>
                refine ⟨k + long, acc ++ [⟨kk, t, n, k⟩], by omega, by go_num, ?_, hb2, by simp; omega, HN.out⟩
                have e3 : (acc ++ [(⟨kk, t, n, k⟩ : Wd)]).length = acc.length + 1 := by simp
                rw [WRow, e3, wc_app, wc_one]
                simp only [wc1]
                rw [HX.out]
                exact HO.out
              case measure => simp [Go.RowKit.intOf]; omega
    · have HN := hid (Wr_end (by have := HQ.out; rw [drop_end0 s k (by omega)] at this; exact this))
      have hks : k = s.size := by omega
      subst hks
      have ke := hid (ended_any w.heap.size s.size u5 acc wr HR.out (by omega) hwz)
      clear HQ
      go_wp2_with fail
      refine ke.out.mono ?_
      rintro e w1 ⟨v', rfl, hr1, hb1⟩
      have HR1 := hid hr1
      clear hr1
      go_wp2_with fail
      go_ret3
      exact ⟨v', by rw [HN.out]; rfl, by rw [HN.out]; exact HR1.out, hbw.trans hb1⟩

theorem Words_any (s : ByteArray) (w : World) (hm : s.size ≤ maxLen) : Calls Tryd.prog 14 #[.string s] w (WordsPost w (words s.data.toList)) := by
  rcases Nat.lt_or_ge 20000 s.size with h | h
  · exact Words_long s w h hm
  · exact Words_short s w h

end Go.Proofs.YtonofnjgefoieaaDoor
