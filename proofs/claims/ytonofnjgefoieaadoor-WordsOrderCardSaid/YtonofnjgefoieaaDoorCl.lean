/- The document's own Quote, at every text. -/
import Derived.Test.YtonofnjgefoieaaDoorCk
import Derived.Test.YtonofnjgefoieaaDoorCe
import Derived.Laws.IdiomStrings
namespace Go.Proofs.YtonofnjgefoieaaDoor
open Go Go.RowKit Go.Lib Go.Proofs.W8
set_option linter.unusedVariables false

theorem bs_app (l : List UInt8) (t : ByteArray) : bs l ++ t = bs (l ++ t.data.toList) := by
  apply Go.WideShapes.bytes_inj
  simp [bs, ByteArray.data_append]
theorem extract1 (s : ByteArray) (k : Nat) (h : k < s.size) : (s.extract k (k + 1)).data.toList = [s[k]'h] := by
  have e1 := drop_at s k h
  have : (s.extract k (k + 1)).data.toList = (s.data.toList.drop k).take 1 := by
    simp [ByteArray.data_extract, Array.toList_extract, List.extract_eq_take_drop]
  rw [this, e1]; rfl

/-- A string of one byte, made of a slice. -/
theorem one_byte (w : World) (n : Int) (b : UInt8) (h : (b.toNat : Int) = n) :
    (convert 35 9 (.slice (some ⟨w.heap.size, 0, none⟩) 1 1)).run Tryd.prog (w.alloc (.cells #[.int .u8 n] 5)) = .ok (.string (bs [b])) (w.alloc (.cells #[.int .u8 n] 5)) := by
  subst h
  refine run_convert_bytes_back (w.alloc (.cells #[.int .u8 (b.toNat : Int)] 5)) 35 9 5 ⟨w.heap.size, 0, none⟩ 1 [b] Tryd.underlying35 Tryd.underlying5 Tryd.underlying9 ?_
  intro j hj
  have hj0 : j = 0 := by simp at hj; omega
  subst hj0
  simp [Addr.add]

set_option maxRecDepth 100000 in
set_option maxHeartbeats 4000000 in
theorem RQuote_any (s : ByteArray) (w : World) (hs : s.size ≤ 1000000) :
    Calls Tryd.prog 11 #[.string s] w fun e w' => e = .returned (quoteV s.data.toList) ∧ Below w.heap.size w w' := by
  go_enter Tryd.func11, Tryd.ntmps11
  go_wp2_with fail
  go_loopw [4, 5] (fun o i wr => ∃ (k : Nat) (acc : List UInt8), k ≤ s.size ∧ o = .string (bs (47 :: acc)) ∧ i = .int .i64 (k : Int) ∧ Below w.heap.size w wr ∧ acc.length ≤ 2 * k ∧ QR s.data.toList k acc) (fun _ i _ => s.size - (Go.RowKit.intOf i).toNat)
  case atStart => exact ⟨0, [], Nat.zero_le _, rfl, rfl, Below.refl _ _, by simp, by unfold QR; simp⟩
  case round =>
    obtain ⟨k, acc, hk, rfl, rfl, hbw, hal, hq⟩ := hrel
    have HQ := hid hq
    have hwz := hbw.size
    clear hq
    have hbz : (bs (47 :: acc)).size = acc.length + 1 := by show (47 :: acc).toArray.size = _; simp
    have HA := hid fun t => bs_app (47 :: acc) t
    generalize hO : bs (47 :: acc) = O at *
    have HO := hid hO
    clear hO
    by_cases hlt : k < s.size
    · have hd := hid (drop_at s k hlt)
      have hb256 := byte_lt (s[k]'hlt)
      by_cases h10 : (s[k]'hlt).toNat = 10
      · have HV := hid (HQ.out.none (by rw [hd.out]; exact qt_bad _ _ h10))
        have t10 : (((s[k]'hlt).toNat : Int) == 10) = true := by simp; omega
        clear h10
        go_wp2_with fail
        go_ret2
        exact ⟨by rw [HV.out]; rfl, hbw⟩
      · have t10 : (((s[k]'hlt).toNat : Int) == 10) = false := by simp; omega
        by_cases h47 : (s[k]'hlt).toNat = 47
        · have HS := hid (HQ.out.step (k' := k + 1) (more := [92, 47]) (by rw [hd.out, qt_slash _ _ h47]; rfl))
          have t47 : (((s[k]'hlt).toNat : Int) == 47) = true := by simp; omega
          have t92 : (((s[k]'hlt).toNat : Int) == 92) = false := by simp; omega
          have hb47 : s[k]'hlt = 47 := u8_eq (by decide) h47
          have HX := hid (extract1 s k hlt)
          rw [hb47] at HX
          clear h10 h47 hb47
          have kc := one_byte wr 92 92 rfl
          have hx1 : (bs [92]).size = 1 := rfl
          have HB : Hid (O ++ bs [92] ++ s.extract k (k + 1) = bs (47 :: (acc ++ [92, 47]))) := by
            show _ = _
            rw [HA.out, bs_app, HX.out]
            simp [bs]
          have hbw1 := hbw.alloc hwz (.cells #[.int .u8 92] 5)
          clear HX
          go_wp2_with fail
          go_roundw
          case rel => exact ⟨k + 1, acc ++ [92, 47], by omega, by rw [← HB.out], by go_num, hbw1, by simp; omega, HS.out⟩
          case measure => simp [Go.RowKit.intOf]; omega
        · have t47 : (((s[k]'hlt).toNat : Int) == 47) = false := by simp; omega
          by_cases h92 : (s[k]'hlt).toNat = 92
          · have t92 : (((s[k]'hlt).toNat : Int) == 92) = true := by simp; omega
            by_cases hk1 : k + 1 = s.size
            · have HV := hid (HQ.out.none (by rw [hd.out, drop_end0 s (k + 1) (by omega)]; exact qt_back0 _ h92))
              have tk : (s.size : Int) ≤ (k : Int) + 1 := by omega
              clear h10 h47 h92 hk1
              go_wp2_with fail
              go_ret2
              exact ⟨by rw [HV.out]; rfl, hbw⟩
            · have hk2 : k + 1 < s.size := by omega
              have hd2 := hid (drop_at s (k + 1) hk2)
              have hc256 := byte_lt (s[k + 1]'hk2)
              by_cases c47 : (s[k + 1]'hk2).toNat = 47
              · have HV := hid (HQ.out.none (by rw [hd.out, hd2.out]; exact qt_back1 _ _ _ h92 (Or.inl c47)))
                have u47 : (((s[k + 1]'hk2).toNat : Int) == 47) = true := by simp; omega
                clear h10 h47 h92 hk1 c47
                go_wp2_with fail
                go_ret2
                exact ⟨by rw [HV.out]; rfl, hbw⟩
              · have u47 : (((s[k + 1]'hk2).toNat : Int) == 47) = false := by simp; omega
                by_cases c10 : (s[k + 1]'hk2).toNat = 10
                · have HV := hid (HQ.out.none (by rw [hd.out, hd2.out]; exact qt_back1 _ _ _ h92 (Or.inr c10)))
                  have u10 : (((s[k + 1]'hk2).toNat : Int) == 10) = true := by simp; omega
                  clear h10 h47 h92 hk1 c47 c10
                  go_wp2_with fail
                  go_ret2
                  exact ⟨by rw [HV.out]; rfl, hbw⟩
                · have u10 : (((s[k + 1]'hk2).toNat : Int) == 10) = false := by simp; omega
                  have HS := hid (HQ.out.step (k' := k + 2) (more := [s[k]'hlt, s[k + 1]'hk2]) (by rw [hd.out, hd2.out, qt_back2 _ _ _ h92 c47 c10]; rfl))
                  have HX := hid (extract2 s k hk2)
                  clear h10 h47 h92 hk1 c47 c10
                  go_wp2_with fail
                  go_roundw
                  case rel => exact ⟨k + 2, acc ++ [s[k]'hlt, s[k + 1]'hk2], by omega, by rw [HA.out, HX.out]; rfl, by go_num, hbw, by simp; omega, HS.out⟩
                  case measure => simp [Go.RowKit.intOf]; omega
          · have t92 : (((s[k]'hlt).toNat : Int) == 92) = false := by simp; omega
            have HS := hid (HQ.out.step (k' := k + 1) (more := [s[k]'hlt]) (by rw [hd.out, qt_plain _ _ h10 h47 h92]; rfl))
            have HX := hid (extract1 s k hlt)
            clear h10 h47 h92
            go_wp2_with fail
            go_roundw
            case rel => exact ⟨k + 1, acc ++ [s[k]'hlt], by omega, by rw [HA.out, HX.out]; rfl, by go_num, hbw, by simp; omega, HS.out⟩
            case measure => simp [Go.RowKit.intOf]; omega
    · have HV := hid (HQ.out.done (by omega))
      go_wp2_with fail
      go_ret2
      refine ⟨?_, hbw⟩
      rw [HV.out]
      have e1 := HA.out { data := #[47] }
      show Ending.returned (.tuple #[.string (O ++ { data := #[47] }), .bool true]) = _
      rw [e1]

end Go.Proofs.YtonofnjgefoieaaDoor
