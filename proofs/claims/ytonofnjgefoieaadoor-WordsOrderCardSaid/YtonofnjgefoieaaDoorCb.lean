/- word.run, at every text and each of the three kinds of runes that are told apart. -/
import Derived.Test.YtonofnjgefoieaaDoorCa
namespace Go.Proofs.YtonofnjgefoieaaDoor
open Go Go.RowKit Go.Lib Go.Proofs.W8
set_option linter.unusedVariables false

theorem getD_at (s : ByteArray) (i : Nat) (h : i < s.size) : s.get! i = s[i]'h := by simp [ByteArray.get!, getElem!_pos, h]; rfl

/-- The bytes of a rune that is not ASCII are all high. -/
theorem decode_more (s : ByteArray) (pos : Nat) (h : pos < s.size) (ha : 128 ≤ (s[pos]'h).toNat) : ∀ j, j < (Utf8.decode s pos).2 → ∃ hj : pos + j < s.size, 128 ≤ (s[pos + j]'hj).toNat := by
  have e0 : ∀ j (hj : pos + j < s.size), (s.get! (pos + j)).toNat / 64 = 2 → 128 ≤ (s[pos + j]'hj).toNat := by
    intro j hj e
    rw [getD_at s _ hj] at e; omega
  have f0 : ∃ hj : pos + 0 < s.size, 128 ≤ (s[pos + 0]'hj).toNat := ⟨h, ha⟩
  have step : ∀ j, (decide (pos + j < s.size) && (s.get! (pos + j)).toNat / 64 == 2) = true → ∃ hj : pos + j < s.size, 128 ≤ (s[pos + j]'hj).toNat := by
    intro j hj
    simp only [Bool.and_eq_true, decide_eq_true_eq, beq_iff_eq] at hj
    exact ⟨hj.1, e0 j hj.1 hj.2⟩
  have hn : ¬ (s[pos]'h).toNat < 128 := by omega
  have hg : s.get! (pos + 0) = s[pos]'h := getD_at s pos h
  intro j hj
  simp only [Utf8.decode, hg, hn, if_false] at hj
  split at hj
  · rename_i c1
    simp only [Bool.and_eq_true] at c1
    have f1 := step 1 (by simpa using c1.2)
    split at hj
    · have : j = 0 ∨ j = 1 := by simp at hj; omega
      rcases this with rfl | rfl
      · exact f0
      · exact f1
    · have : j = 0 := by simp at hj; omega
      subst this; exact f0
  · split at hj
    · rename_i c2
      simp only [Bool.and_eq_true] at c2
      have f1 := step 1 (by simpa using c2.1.2)
      have f2 := step 2 (by simpa using c2.2)
      split at hj
      · have : j = 0 ∨ j = 1 ∨ j = 2 := by simp at hj; omega
        rcases this with rfl | rfl | rfl
        · exact f0
        · exact f1
        · exact f2
      · have : j = 0 := by simp at hj; omega
        subst this; exact f0
    · split at hj
      · rename_i c3
        simp only [Bool.and_eq_true] at c3
        have f1 := step 1 (by simpa using c3.1.1.2)
        have f2 := step 2 (by simpa using c3.1.2)
        have f3 := step 3 (by simpa using c3.2)
        split at hj
        · have : j = 0 ∨ j = 1 ∨ j = 2 ∨ j = 3 := by simp at hj; omega
          rcases this with rfl | rfl | rfl | rfl
          · exact f0
          · exact f1
          · exact f2
          · exact f3
        · have : j = 0 := by simp at hj; omega
          subst this; exact f0
      · have : j = 0 := by simp at hj; omega
        subst this; exact f0

theorem drop_at (s : ByteArray) (i : Nat) (h : i < s.size) : s.data.toList.drop i = s[i]'h :: s.data.toList.drop (i + 1) := List.drop_eq_getElem_cons (by simpa using h)

theorem runL_at (p : UInt8 → Bool) (s : ByteArray) (i : Nat) (h : i < s.size) : runL p (s.data.toList.drop i) = if p (s[i]'h) then runL p (s.data.toList.drop (i + 1)) + 1 else 0 := by
  rw [drop_at s i h]; rfl
theorem runL_over (p : UInt8 → Bool) (s : ByteArray) (i : Nat) : ∀ k, (∀ j, j < k → ∃ hj : i + j < s.size, p (s[i + j]'hj) = true) → runL p (s.data.toList.drop i) = k + runL p (s.data.toList.drop (i + k))
  | 0, _ => by simp
  | k + 1, h => by
    obtain ⟨hj, e⟩ := h k (by omega)
    have := runL_over p s i k (fun j hj => h j (by omega))
    rw [this, runL_at p s (i + k) hj, if_pos e]
    have e2 : i + (k + 1) = i + k + 1 := by omega
    rw [e2]; omega

theorem width_pos (s : ByteArray) (pos : Nat) (h : pos < s.size) : 1 ≤ (Utf8.decode s pos).2 := by
  by_cases ha : (s[pos]'h).toNat < 128
  · rw [decode_ascii s pos h ha]
    exact Nat.le_refl _
  · exact (decode_high s pos h (by omega)).2

/-- A test on runes that is one on bytes: of high ones it says the same, whatever they are. -/
structure OnBytes (P : Int → Bool) (p : UInt8 → Bool) (c : Bool) : Prop where
  low : ∀ b : UInt8, b.toNat < 128 → P (b.toNat : Int) = p b
  high : ∀ b : UInt8, 128 ≤ b.toNat → p b = c
  rune : ∀ r : Int, 128 ≤ r → P r = c

theorem OnBytes.yes {P : Int → Bool} {p : UInt8 → Bool} {c : Bool} (h : OnBytes P p c) (s : ByteArray) (pos : Nat) (hp : pos < s.size) (hy : P ((Utf8.decode s pos).1 : Int) = true) :
    runL p (s.data.toList.drop pos) = (Utf8.decode s pos).2 + runL p (s.data.toList.drop (pos + (Utf8.decode s pos).2)) ∧ pos + (Utf8.decode s pos).2 ≤ s.size := by
  by_cases ha : (s[pos]'hp).toNat < 128
  · rw [decode_ascii s pos hp ha] at hy ⊢
    simp only at hy ⊢
    rw [h.low _ ha] at hy
    rw [runL_at p s pos hp, if_pos hy]
    omega
  · have ha' : 128 ≤ (s[pos]'hp).toNat := by omega
    have hm := decode_more s pos hp ha'
    have hh := decode_high s pos hp ha'
    rw [h.rune _ (by omega)] at hy
    subst hy
    refine ⟨runL_over p s pos _ (fun j hj => ?_), ?_⟩
    · obtain ⟨a, b⟩ := hm j hj
      exact ⟨a, h.high _ b⟩
    · obtain ⟨a, _⟩ := hm ((Utf8.decode s pos).2 - 1) (by omega)
      omega
theorem OnBytes.no {P : Int → Bool} {p : UInt8 → Bool} {c : Bool} (h : OnBytes P p c) (s : ByteArray) (pos : Nat) (hp : pos < s.size) (hy : P ((Utf8.decode s pos).1 : Int) = false) :
    runL p (s.data.toList.drop pos) = 0 := by
  rw [runL_at p s pos hp]
  by_cases ha : (s[pos]'hp).toNat < 128
  · rw [decode_ascii s pos hp ha] at hy
    simp only at hy
    rw [h.low _ ha] at hy
    rw [if_neg (by simp [hy])]
  · have hh := decode_high s pos hp (by omega)
    rw [h.rune _ (by omega)] at hy
    rw [if_neg (by simp [h.high _ (show 128 ≤ (s[pos]'hp).toNat by omega), hy])]

theorem dg_bytes : OnBytes dgI dg false := ⟨fun b _ => dgI_nat b, fun b h => by simp [dg]; omega, fun r h => by simp [dgI]; omega⟩
theorem nm_bytes : OnBytes nmI nm false := ⟨fun b _ => nmI_nat b, fun b h => by simp [nm, lt, dg]; omega, fun r h => by simp [nmI, ltI, dgI]; omega⟩
theorem no10_bytes : OnBytes no10I no10 true := ⟨fun b _ => no10I_nat b, fun b h => by simp [no10]; omega, fun r h => by simp [no10I]; omega⟩

set_option maxHeartbeats 1000000 in
theorem run_digits (s : ByteArray) (w : World) (hs : s.size ≤ maxLen) :
    Calls Tryd.prog 21 #[.string s, .func (.func 27) #[] #[]] w fun e w' => e = .returned (.int .i64 (runL dg s.data.toList : Nat)) ∧ Below w.heap.size w w' := by
  unfold maxLen at hs
  have kf := hid fun (r : Int) w => digit_any r w
  go_enter Tryd.func21, Tryd.ntmps21
  go_wp2
  go_loopw [] (fun wr => ∃ pos : Nat, pos ≤ s.size ∧ runL dg s.data.toList = pos + runL dg (s.data.toList.drop pos) ∧ wr.heap[w.heap.size]? = some (.stringIter s pos) ∧ Below w.heap.size w wr) (fun wr => s.size - wr.iterPos w.heap.size)
  case atStart =>
    refine ⟨0, Nat.zero_le _, by simp, ?_, (Below.refl _ w).alloc (Nat.le_refl _) _⟩
    have := World.iter_heap w s 0
    simpa using this
  case round =>
    obtain ⟨pos, hps, hrun, hit, hbw⟩ := hrel
    have HR := hid hrun
    clear hrun
    by_cases hp : pos < s.size
    · have hnx : ∀ ty, (Instr.next (.pointer (some ⟨w.heap.size, 0, none⟩)) true ty).run Tryd.prog wr = _ := fun ty => Lib.run_next_any_at wr w.heap.size s pos ty hit hp
      have hwd := width_pos s pos hp
      have hd1 := decode_le s pos
      have hit2 := Lib.iterAt_heap wr w.heap.size s pos (pos + (Utf8.decode s pos).2) hit
      have hbw2 := Lib.below_iterAt hbw (k := w.heap.size) (Nat.le_refl _) s (pos + (Utf8.decode s pos).2)
      have Hit := hid hit2
      clear hit2
      have hy := dg_bytes.yes s pos hp
      have hn := dg_bytes.no s pos hp
      cases hc : dgI ((Utf8.decode s pos).1 : Int) with
      | true =>
        have hy2 := hy hc
        have HY := hid hy2.1
        have HZ := hy2.2
        clear hy hn hy2
        have kc := hid fun w => (hc ▸ kf.out ((Utf8.decode s pos).1 : Int) w : Calls Tryd.prog 27 #[.int .i32 ((Utf8.decode s pos).1 : Int)] w fun e w' => e = .returned (.bool true) ∧ w = w')
        clear hc kf
        go_wp2_with fail
        refine (kc.out _).mono ?_
        rintro e w1 ⟨rfl, rfl⟩
        go_wp2
        go_roundw
        case rel => exact ⟨pos + (Utf8.decode s pos).2, HZ, by rw [HR.out, HY.out]; omega, Hit.out, hbw2⟩
        case measure =>
          have := Hit.out
          simp only [World.iterPos, this, hit]
          omega
      | false =>
        have HY := hid (hn hc)
        clear hy hn
        have kc := hid fun w => (hc ▸ kf.out ((Utf8.decode s pos).1 : Int) w : Calls Tryd.prog 27 #[.int .i32 ((Utf8.decode s pos).1 : Int)] w fun e w' => e = .returned (.bool false) ∧ w = w')
        clear hc kf
        go_wp2_with fail
        refine (kc.out _).mono ?_
        rintro e w1 ⟨rfl, rfl⟩
        go_wp2
        go_ret
        exact ⟨ret_i (by rw [HR.out, HY.out]; simp), hbw2⟩
    · have hnx : ∀ ty, (Instr.next (.pointer (some ⟨w.heap.size, 0, none⟩)) true ty).run Tryd.prog wr = _ := fun ty => Lib.run_next_end_at wr w.heap.size s pos ty hit hp
      have hz : s.data.toList.drop pos = [] := List.drop_eq_nil_of_le (by simpa using Nat.le_of_not_lt hp)
      have HZ := hid hz
      clear hz
      go_wp2
      go_ret
      exact ⟨ret_i (by rw [HR.out, HZ.out]; simp [runL]; omega), hbw⟩

set_option maxHeartbeats 1000000 in
theorem run_names (s : ByteArray) (w : World) (hs : s.size ≤ maxLen) :
    Calls Tryd.prog 21 #[.string s, .func (.func 22) #[] #[]] w fun e w' => e = .returned (.int .i64 (runL nm s.data.toList : Nat)) ∧ Below w.heap.size w w' := by
  unfold maxLen at hs
  have kf := hid fun (r : Int) w => ofName_any r w
  go_enter Tryd.func21, Tryd.ntmps21
  go_wp2
  go_loopw [] (fun wr => ∃ pos : Nat, pos ≤ s.size ∧ runL nm s.data.toList = pos + runL nm (s.data.toList.drop pos) ∧ wr.heap[w.heap.size]? = some (.stringIter s pos) ∧ Below w.heap.size w wr) (fun wr => s.size - wr.iterPos w.heap.size)
  case atStart =>
    refine ⟨0, Nat.zero_le _, by simp, ?_, (Below.refl _ w).alloc (Nat.le_refl _) _⟩
    have := World.iter_heap w s 0
    simpa using this
  case round =>
    obtain ⟨pos, hps, hrun, hit, hbw⟩ := hrel
    have HR := hid hrun
    clear hrun
    by_cases hp : pos < s.size
    · have hnx : ∀ ty, (Instr.next (.pointer (some ⟨w.heap.size, 0, none⟩)) true ty).run Tryd.prog wr = _ := fun ty => Lib.run_next_any_at wr w.heap.size s pos ty hit hp
      have hwd := width_pos s pos hp
      have hd1 := decode_le s pos
      have hit2 := Lib.iterAt_heap wr w.heap.size s pos (pos + (Utf8.decode s pos).2) hit
      have hbw2 := Lib.below_iterAt hbw (k := w.heap.size) (Nat.le_refl _) s (pos + (Utf8.decode s pos).2)
      have Hit := hid hit2
      clear hit2
      have hy := nm_bytes.yes s pos hp
      have hn := nm_bytes.no s pos hp
      cases hc : nmI ((Utf8.decode s pos).1 : Int) with
      | true =>
        have hy2 := hy hc
        have HY := hid hy2.1
        have HZ := hy2.2
        clear hy hn hy2
        have kc := hid fun w => (hc ▸ kf.out ((Utf8.decode s pos).1 : Int) w : Calls Tryd.prog 22 #[.int .i32 ((Utf8.decode s pos).1 : Int)] w fun e w' => e = .returned (.bool true) ∧ w = w')
        clear hc kf
        go_wp2_with fail
        refine (kc.out _).mono ?_
        rintro e w1 ⟨rfl, rfl⟩
        go_wp2
        go_roundw
        case rel => exact ⟨pos + (Utf8.decode s pos).2, HZ, by rw [HR.out, HY.out]; omega, Hit.out, hbw2⟩
        case measure =>
          have := Hit.out
          simp only [World.iterPos, this, hit]
          omega
      | false =>
        have HY := hid (hn hc)
        clear hy hn
        have kc := hid fun w => (hc ▸ kf.out ((Utf8.decode s pos).1 : Int) w : Calls Tryd.prog 22 #[.int .i32 ((Utf8.decode s pos).1 : Int)] w fun e w' => e = .returned (.bool false) ∧ w = w')
        clear hc kf
        go_wp2_with fail
        refine (kc.out _).mono ?_
        rintro e w1 ⟨rfl, rfl⟩
        go_wp2
        go_ret
        exact ⟨ret_i (by rw [HR.out, HY.out]; simp), hbw2⟩
    · have hnx : ∀ ty, (Instr.next (.pointer (some ⟨w.heap.size, 0, none⟩)) true ty).run Tryd.prog wr = _ := fun ty => Lib.run_next_end_at wr w.heap.size s pos ty hit hp
      have hz : s.data.toList.drop pos = [] := List.drop_eq_nil_of_le (by simpa using Nat.le_of_not_lt hp)
      have HZ := hid hz
      clear hz
      go_wp2
      go_ret
      exact ⟨ret_i (by rw [HR.out, HZ.out]; simp [runL]; omega), hbw⟩

set_option maxHeartbeats 1000000 in
theorem run_line (s : ByteArray) (w : World) (hs : s.size ≤ maxLen) :
    Calls Tryd.prog 21 #[.string s, .func (.func 23) #[] #[]] w fun e w' => e = .returned (.int .i64 (runL no10 s.data.toList : Nat)) ∧ Below w.heap.size w w' := by
  unfold maxLen at hs
  have kf := hid fun (r : Int) w => not10_any r w
  go_enter Tryd.func21, Tryd.ntmps21
  go_wp2
  go_loopw [] (fun wr => ∃ pos : Nat, pos ≤ s.size ∧ runL no10 s.data.toList = pos + runL no10 (s.data.toList.drop pos) ∧ wr.heap[w.heap.size]? = some (.stringIter s pos) ∧ Below w.heap.size w wr) (fun wr => s.size - wr.iterPos w.heap.size)
  case atStart =>
    refine ⟨0, Nat.zero_le _, by simp, ?_, (Below.refl _ w).alloc (Nat.le_refl _) _⟩
    have := World.iter_heap w s 0
    simpa using this
  case round =>
    obtain ⟨pos, hps, hrun, hit, hbw⟩ := hrel
    have HR := hid hrun
    clear hrun
    by_cases hp : pos < s.size
    · have hnx : ∀ ty, (Instr.next (.pointer (some ⟨w.heap.size, 0, none⟩)) true ty).run Tryd.prog wr = _ := fun ty => Lib.run_next_any_at wr w.heap.size s pos ty hit hp
      have hwd := width_pos s pos hp
      have hd1 := decode_le s pos
      have hit2 := Lib.iterAt_heap wr w.heap.size s pos (pos + (Utf8.decode s pos).2) hit
      have hbw2 := Lib.below_iterAt hbw (k := w.heap.size) (Nat.le_refl _) s (pos + (Utf8.decode s pos).2)
      have Hit := hid hit2
      clear hit2
      have hy := no10_bytes.yes s pos hp
      have hn := no10_bytes.no s pos hp
      cases hc : no10I ((Utf8.decode s pos).1 : Int) with
      | true =>
        have hy2 := hy hc
        have HY := hid hy2.1
        have HZ := hy2.2
        clear hy hn hy2
        have kc := hid fun w => (hc ▸ kf.out ((Utf8.decode s pos).1 : Int) w : Calls Tryd.prog 23 #[.int .i32 ((Utf8.decode s pos).1 : Int)] w fun e w' => e = .returned (.bool true) ∧ w = w')
        clear hc kf
        go_wp2_with fail
        refine (kc.out _).mono ?_
        rintro e w1 ⟨rfl, rfl⟩
        go_wp2
        go_roundw
        case rel => exact ⟨pos + (Utf8.decode s pos).2, HZ, by rw [HR.out, HY.out]; omega, Hit.out, hbw2⟩
        case measure =>
          have := Hit.out
          simp only [World.iterPos, this, hit]
          omega
      | false =>
        have HY := hid (hn hc)
        clear hy hn
        have kc := hid fun w => (hc ▸ kf.out ((Utf8.decode s pos).1 : Int) w : Calls Tryd.prog 23 #[.int .i32 ((Utf8.decode s pos).1 : Int)] w fun e w' => e = .returned (.bool false) ∧ w = w')
        clear hc kf
        go_wp2_with fail
        refine (kc.out _).mono ?_
        rintro e w1 ⟨rfl, rfl⟩
        go_wp2
        go_ret
        exact ⟨ret_i (by rw [HR.out, HY.out]; simp), hbw2⟩
    · have hnx : ∀ ty, (Instr.next (.pointer (some ⟨w.heap.size, 0, none⟩)) true ty).run Tryd.prog wr = _ := fun ty => Lib.run_next_end_at wr w.heap.size s pos ty hit hp
      have hz : s.data.toList.drop pos = [] := List.drop_eq_nil_of_le (by simpa using Nat.le_of_not_lt hp)
      have HZ := hid hz
      clear hz
      go_wp2
      go_ret
      exact ⟨ret_i (by rw [HR.out, HZ.out]; simp [runL]; omega), hbw⟩

end Go.Proofs.YtonofnjgefoieaaDoor
