/- The document's own IsName and Quote, at every text. -/
import Derived.Test.YtonofnjgefoieaaDoorCd
import Derived.Lib.ConvBytes
namespace Go.Proofs.YtonofnjgefoieaaDoor
open Go Go.RowKit Go.Lib Go.Proofs.W8
set_option linter.unusedVariables false

theorem RLetter_any (b : UInt8) (w : World) : Calls Tryd.prog 18 #[.int .u8 (b.toNat : Int)] w fun e w' => e = .returned (.bool (lt b)) ∧ w = w' := by
  have hl : lt b = ltI (b.toNat : Int) := (ltI_nat b).symm
  rw [hl]
  have hb := byte_lt b
  have hb0 : 0 ≤ (b.toNat : Int) := by omega
  generalize (b.toNat : Int) = r at *
  clear hl
  by_cases h5 : r = 95
  · subst h5
    go_enter Tryd.func18, Tryd.ntmps18
    go_wp2
    go_ret
    exact ⟨rfl, rfl⟩
  · have hd : ltI r = (decide (97 ≤ r ∧ r ≤ 122) || decide (65 ≤ r ∧ r ≤ 90)) := by simp [ltI, h5]
    rw [hd]
    clear hd
    by_cases h1 : 97 ≤ r
    · by_cases h2 : r ≤ 122
      · have hd : (decide (97 ≤ r ∧ r ≤ 122) || decide (65 ≤ r ∧ r ≤ 90)) = true := by simp; omega
        rw [hd]; clear hd
        go_enter Tryd.func18, Tryd.ntmps18
        go_wp2
        go_ret
        exact ⟨rfl, rfl⟩
      · have hd : (decide (97 ≤ r ∧ r ≤ 122) || decide (65 ≤ r ∧ r ≤ 90)) = false := by simp; omega
        rw [hd]; clear hd
        have k1 : decide (r ≤ 122) = false := by simp; omega
        have k2 : decide (r ≤ 90) = false := by simp; omega
        go_enter Tryd.func18, Tryd.ntmps18
        go_wp2
        go_ret
        exact ⟨ret_b (by simp; omega), rfl⟩
    · have k0 : decide (97 ≤ r) = false := by simp; omega
      have hd : (decide (97 ≤ r ∧ r ≤ 122) || decide (65 ≤ r ∧ r ≤ 90)) = decide (65 ≤ r ∧ r ≤ 90) := by
        have : decide (97 ≤ r ∧ r ≤ 122) = false := by simp; omega
        rw [this]; rfl
      rw [hd]; clear hd
      by_cases h3 : 65 ≤ r
      · by_cases h4 : r ≤ 90
        · have hd : decide (65 ≤ r ∧ r ≤ 90) = true := by simp; omega
          rw [hd]; clear hd
          go_enter Tryd.func18, Tryd.ntmps18
          go_wp2
          go_ret
          exact ⟨rfl, rfl⟩
        · have hd : decide (65 ≤ r ∧ r ≤ 90) = false := by simp; omega
          rw [hd]; clear hd
          go_enter Tryd.func18, Tryd.ntmps18
          go_wp2
          go_ret
          exact ⟨ret_b (by simp; omega), rfl⟩
      · have hd : decide (65 ≤ r ∧ r ≤ 90) = false := by simp; omega
        rw [hd]; clear hd
        go_enter Tryd.func18, Tryd.ntmps18
        go_wp2
        go_ret
        exact ⟨ret_b (by simp; omega), rfl⟩

theorem RDigit_any (b : UInt8) (w : World) : Calls Tryd.prog 19 #[.int .u8 (b.toNat : Int)] w fun e w' => e = .returned (.bool (dg b)) ∧ w = w' := by
  have hl : dg b = dgI (b.toNat : Int) := (dgI_nat b).symm
  rw [hl]
  generalize (b.toNat : Int) = r at *
  clear hl
  by_cases h1 : 48 ≤ r
  · go_enter Tryd.func19, Tryd.ntmps19
    go_wp2
    all_goals
      go_ret
      exact ⟨ret_b (by unfold dgI; simp; omega), rfl⟩
  · go_enter Tryd.func19, Tryd.ntmps19
    go_wp2
    all_goals
      go_ret
      exact ⟨ret_b (by unfold dgI; simp; omega), rfl⟩

/-- All bytes from a place on are a name's. -/
theorem runL_full {s : ByteArray} {k : Nat} (h : k < s.size) (hr : runL nm s.data.toList = k + runL nm (s.data.toList.drop k)) :
    (nm (s[k]'h) = true → runL nm s.data.toList = (k + 1) + runL nm (s.data.toList.drop (k + 1))) ∧ (nm (s[k]'h) = false → runL nm s.data.toList = k) := by
  have e := runL_at nm s k h
  constructor
  · intro hn; rw [if_pos hn] at e; omega
  · intro hn; rw [if_neg (by simp [hn])] at e; omega

set_option maxRecDepth 100000 in
set_option maxHeartbeats 2000000 in
theorem RIsName_any (s : ByteArray) (w : World) (hs : s.size ≤ maxLen) : Calls Tryd.prog 12 #[.string s] w fun e w' => e = .returned (.bool (isName s.data.toList)) ∧ w = w' := by
  unfold maxLen at hs
  by_cases h0 : s.size = 0
  · obtain rfl : s = ⟨#[]⟩ := by
      cases s; rename_i d; congr; exact Array.eq_empty_of_size_eq_zero h0
    clear h0 hs
    go_enter Tryd.func12, Tryd.ntmps12
    go_wp2_with fail
    go_ret
    exact ⟨rfl, rfl⟩
  · have hp : 0 < s.size := by omega
    have hn := isName_cons s hp
    rw [hn]
    clear hn
    have e1 := empty_no hp
    have e2 := byte_lt (s[0]'hp)
    by_cases h32 : s.size ≤ 32
    · have hd : decide (s.size ≤ 32) = true := by simpa using h32
      rw [hd]
      have kl := hid fun w => RLetter_any (s[0]'hp) w
      cases hc : lt (s[0]'hp) with
      | true =>
        rw [hc] at kl
        clear hc h0 hd
        go_enter Tryd.func12, Tryd.ntmps12
        go_wp2_with fail
        refine (kl.out _).mono ?_
        rintro e w1 ⟨rfl, rfl⟩
        go_wp2_with fail
        go_loop [3] (fun i => ∃ k : Nat, k ≤ s.size ∧ i = .int .i64 (k : Int) ∧ runL nm s.data.toList = k + runL nm (s.data.toList.drop k)) (fun i => s.size - (Go.RowKit.intOf i).toNat)
        case atStart => exact ⟨0, Nat.zero_le _, rfl, by simp⟩
        case round =>
          obtain ⟨k, hk, rfl, hr⟩ := hrel
          by_cases hlt : k < s.size
          · have hf := runL_full hlt hr
            have hb3 := byte_lt (s[k]'hlt)
            have kk := hid fun w => RLetter_any (s[k]'hlt) w
            have kd := hid fun w => RDigit_any (s[k]'hlt) w
            have HR := hid hr
            clear hr
            cases hl : lt (s[k]'hlt) with
            | true =>
              have HF := hid (hf.1 (by simp [nm, hl]))
              rw [hl] at kk
              clear hf hl kd
              go_wp2_with fail
              refine (kk.out _).mono ?_
              rintro e w1 ⟨rfl, rfl⟩
              go_wp2_with fail
              go_round
              case rel => exact ⟨k + 1, by omega, by go_num, HF.out⟩
              case measure => simp [Go.RowKit.intOf]; omega
            | false =>
              rw [hl] at kk
              cases hdd : dg (s[k]'hlt) with
              | true =>
                have HF := hid (hf.1 (by simp [nm, hdd]))
                rw [hdd] at kd
                clear hf hl hdd
                go_wp2_with fail
                refine (kk.out _).mono ?_
                rintro e w1 ⟨rfl, rfl⟩
                go_wp2_with fail
                refine (kd.out _).mono ?_
                rintro e w1 ⟨rfl, rfl⟩
                go_wp2_with fail
                go_round
                case rel => exact ⟨k + 1, by omega, by go_num, HF.out⟩
                case measure => simp [Go.RowKit.intOf]; omega
              | false =>
                have HF := hid (hf.2 (by simp [nm, hl, hdd]))
                rw [hdd] at kd
                clear hf hl hdd
                go_wp2_with fail
                refine (kk.out _).mono ?_
                rintro e w1 ⟨rfl, rfl⟩
                go_wp2_with fail
                refine (kd.out _).mono ?_
                rintro e w1 ⟨rfl, rfl⟩
                go_wp2_with fail
                go_ret
                exact ⟨ret_b (by rw [HF.out]; simp; omega), rfl⟩
          · have HF : Hid (runL nm s.data.toList = s.size) := by
              show _ = _
              rw [hr, drop_end0 s k (by omega)]; simp [runL]; omega
            clear hr
            go_wp2_with fail
            go_ret
            exact ⟨ret_b (by rw [HF.out]; simp), rfl⟩
      | false =>
        rw [hc] at kl
        clear hc h0 hd
        go_enter Tryd.func12, Tryd.ntmps12
        go_wp2_with fail
        refine (kl.out _).mono ?_
        rintro e w1 ⟨rfl, rfl⟩
        go_wp2_with fail
        go_ret
        exact ⟨ret_b (by simp), rfl⟩
    · have hd : decide (s.size ≤ 32) = false := by simpa using h32
      rw [hd]
      have h33 : (32 : Int) < (s.size : Int) := by omega
      clear hd h0 h32
      go_enter Tryd.func12, Tryd.ntmps12
      go_wp2_with fail
      go_ret
      exact ⟨ret_b (by simp), rfl⟩

end Go.Proofs.YtonofnjgefoieaaDoor
