/- word.Quote, at every text. -/
import Derived.Test.YtonofnjgefoieaaDoorCc
import Derived.Test.YtonofnjgefoieaaDoorBu
namespace Go.Proofs.YtonofnjgefoieaaDoor
open Go Go.RowKit Go.Lib Go.Proofs.W8
set_option linter.unusedVariables false

def bs (l : List UInt8) : ByteArray := ⟨l.toArray⟩

/-- What Quote hands back. -/
def quoteV (l : List UInt8) : Value :=
  match qt l with
  | some q => .tuple #[.string (bs (47 :: q)), .bool true]
  | none => .tuple #[.string ⟨#[]⟩, .bool false]

def qtI (acc : List UInt8) (r : Option (List UInt8)) : Option (List UInt8) := r.map (acc ++ ·)

theorem qt_bad (b : UInt8) (l : List UInt8) (h : b.toNat = 10) : qt (b :: l) = none := by
  cases l <;> simp [qt, h]
theorem qt_slash (b : UInt8) (l : List UInt8) (h : b.toNat = 47) : qt (b :: l) = (qt l).map (fun x => 92 :: 47 :: x) := by
  cases l with
  | nil => simp [qt, h]
  | cons c l => simp [qt, h]
theorem qt_back0 (b : UInt8) (h : b.toNat = 92) : qt [b] = none := by simp [qt, h]
theorem qt_back1 (b c : UInt8) (l : List UInt8) (h : b.toNat = 92) (hc : c.toNat = 47 ∨ c.toNat = 10) : qt (b :: c :: l) = none := by simp [qt, h, hc]
theorem qt_back2 (b c : UInt8) (l : List UInt8) (h : b.toNat = 92) (h1 : c.toNat ≠ 47) (h2 : c.toNat ≠ 10) : qt (b :: c :: l) = (qt l).map (fun x => b :: c :: x) := by simp [qt, h, h1, h2]
theorem qt_plain (b : UInt8) (l : List UInt8) (h1 : b.toNat ≠ 10) (h2 : b.toNat ≠ 47) (h3 : b.toNat ≠ 92) : qt (b :: l) = (qt l).map (fun x => b :: x) := by
  cases l with
  | nil => simp [qt, h1, h2, h3]
  | cons c l => simp [qt, h1, h2, h3]

/-- The builder holds a text's bytes. -/
abbrev BldT (B b : Nat) (l : List UInt8) (w : World) : Prop := Bld B b (Lib.byteCells l) w

theorem put_b (B b : Nat) (l : List UInt8) (c : UInt8) (w : World) (h : BldT B b l w) (hlen : l.length ≤ 100000000) (hBw : B ≤ w.heap.size) :
    Calls Tryd.prog 15 #[.pointer (some ⟨b, 0, none⟩), .int .u8 (c.toNat : Int)] w fun e w' => e = .returned .nilIface ∧ (BldT B b (l ++ [c]) w' ∧ Below B w w' ∧ Lib.OthersKept 5 (some b) w w') := by
  refine (put_byte B b _ (c.toNat : Int) w h (by rw [Lib.byteCells_length]; omega) hBw).mono ?_
  rintro e w' ⟨rfl, h1, h2⟩
  exact ⟨rfl, by rw [BldT, Lib.byteCells_append]; exact h1, h2⟩
theorem put_t (B b : Nat) (l : List UInt8) (s : ByteArray) (w : World) (h : BldT B b l w) (hlen : l.length ≤ 100000000) (hs : s.size ≤ 100000000) (hBw : B ≤ w.heap.size) :
    Calls Tryd.prog 16 #[.pointer (some ⟨b, 0, none⟩), .string s] w fun e w' => e = .returned (.tuple #[.int .i64 s.size, .nilIface]) ∧ (BldT B b (l ++ s.data.toList) w' ∧ Below B w w' ∧ Lib.OthersKept 5 (some b) w w') := by
  refine (put_text B b _ s w h (by rw [Lib.byteCells_length]; omega) hBw).mono ?_
  rintro e w' ⟨rfl, h1, h2⟩
  exact ⟨rfl, by rw [BldT, Lib.byteCells_append]; exact h1, h2⟩
theorem take_t (B b : Nat) (l : List UInt8) (w : World) (h : BldT B b l w) (hBw : B ≤ w.heap.size) :
    Calls Tryd.prog 17 #[.pointer (some ⟨b, 0, none⟩)] w fun e w' => e = .returned (.string (bs l)) ∧ Below B w w' ∧ Lib.OthersKept 5 (some b) w w' := by
  refine (Tryd.Builder_String_any_k B b l w h hBw).mono ?_
  rintro e w' ⟨rfl, _, h2⟩
  exact ⟨rfl, h2⟩

theorem drop_end0 (s : ByteArray) (k : Nat) (h : s.size ≤ k) : s.data.toList.drop k = [] := List.drop_eq_nil_of_le (by simpa using h)
theorem extract2 (s : ByteArray) (k : Nat) (h : k + 1 < s.size) : (s.extract k (k + 2)).data.toList = [s[k]'(by omega), s[k + 1]'h] := by
  have e1 := drop_at s k (by omega)
  have e2 := drop_at s (k + 1) h
  rw [e2] at e1
  have : (s.extract k (k + 2)).data.toList = (s.data.toList.drop k).take 2 := by
    simp [ByteArray.data_extract, Array.toList_extract, List.extract_eq_take_drop]
  rw [this, e1]
  rfl

def QR (l : List UInt8) (k : Nat) (acc : List UInt8) : Prop := qt l = (qt (l.drop k)).map (acc ++ ·)

theorem QR.none {s : ByteArray} {k : Nat} {acc : List UInt8} (h : QR s.data.toList k acc) (hq : qt (s.data.toList.drop k) = none) : quoteV s.data.toList = .tuple #[.string ⟨#[]⟩, .bool false] := by
  unfold QR at h; rw [hq] at h; unfold quoteV; rw [h]; rfl
theorem QR.step {s : ByteArray} {k k' : Nat} {acc more : List UInt8} (h : QR s.data.toList k acc) (hq : qt (s.data.toList.drop k) = (qt (s.data.toList.drop k')).map (more ++ ·)) : QR s.data.toList k' (acc ++ more) := by
  unfold QR at *; rw [h, hq, Option.map_map]; congr 1; funext x; simp
theorem QR.done {s : ByteArray} {k : Nat} {acc : List UInt8} (h : QR s.data.toList k acc) (hk : s.size ≤ k) : quoteV s.data.toList = .tuple #[.string (bs ((47 :: acc) ++ [47])), .bool true] := by
  unfold QR at h; rw [drop_end0 s k hk] at h; unfold quoteV; rw [h]; simp [qt]

set_option maxRecDepth 100000 in
set_option maxHeartbeats 4000000 in
theorem Quote_any (s : ByteArray) (w : World) (hs : s.size ≤ 1000000) :
    Calls Tryd.prog 10 #[.string s] w fun e w' => e = .returned (quoteV s.data.toList) ∧ Below w.heap.size w w' := by
  go_enter Tryd.func10, Tryd.ntmps10
  go_wp2_with fail
  refine (put_b w.heap.size w.heap.size [] 47 _ (Lib.IsBuilderF.of (Lib.fresh_isBuilder 39 5 w)) (by simp) (by simp)).mono ?_
  rintro e w0 ⟨rfl, hI0, hb0, hk0⟩
  have hbw0 : Below w.heap.size w w0 := ((Below.refl _ w).alloc (Nat.le_refl _) _).trans hb0
  clear hb0 hk0
  go_wp2_with fail
  go_loopw [5] (fun i wr => ∃ (k : Nat) (acc : List UInt8), k ≤ s.size ∧ i = .int .i64 (k : Int) ∧ BldT w.heap.size w.heap.size (47 :: acc) wr ∧ Below w.heap.size w wr ∧ acc.length ≤ 2 * k ∧ QR s.data.toList k acc) (fun i _ => s.size - (Go.RowKit.intOf i).toNat)
  case atStart => exact ⟨0, [], Nat.zero_le _, rfl, hI0, hbw0, by simp, by unfold QR; simp⟩
  case round =>
    obtain ⟨k, acc, hk, rfl, hI, hbw, hal, hq⟩ := hrel
    have HQ := hid hq
    have hwz := hbw.size
    clear hq hI0 hbw0
    by_cases hlt : k < s.size
    · have hd := hid (drop_at s k hlt)
      have hb256 := byte_lt (s[k]'hlt)
      by_cases h10 : (s[k]'hlt).toNat = 10
      · have HV := hid (HQ.out.none (by rw [hd.out]; exact qt_bad _ _ h10))
        have t10 : (((s[k]'hlt).toNat : Int) == 10) = true := by simp; omega
        clear h10
        go_wp2_with fail
        go_ret2
        exact ⟨by rw [HV.out]; rfl, hbw⟩
      · have t10 : (((s[k]'hlt).toNat : Int) == 10) = false := by simp; omega
        by_cases h47 : (s[k]'hlt).toNat = 47
        · have HS := hid (HQ.out.step (k' := k + 1) (more := [92, 47]) (by rw [hd.out, qt_slash _ _ h47]; rfl))
          have t47 : (((s[k]'hlt).toNat : Int) == 47) = true := by simp; omega
          clear h10 h47
          go_wp2_with fail
          refine (put_t w.heap.size w.heap.size (47 :: acc) _ _ hI (by simp; omega) (by decide) hwz).mono ?_
          rintro e w1 ⟨rfl, hI1, hb1, _⟩
          go_wp2_with fail
          go_roundw
          case rel => exact ⟨k + 1, acc ++ [92, 47], by omega, by go_num, by simpa using hI1, hbw.trans hb1, by simp; omega, HS.out⟩
          case measure => simp [Go.RowKit.intOf]; omega
        · have t47 : (((s[k]'hlt).toNat : Int) == 47) = false := by simp; omega
          by_cases h92 : (s[k]'hlt).toNat = 92
          · have t92 : (((s[k]'hlt).toNat : Int) == 92) = true := by simp; omega
            by_cases hk1 : k + 1 = s.size
            · have HV := hid (HQ.out.none (by rw [hd.out, drop_end0 s (k + 1) (by omega)]; exact qt_back0 _ h92))
              have tk : ((k : Int) + 1 == (s.size : Int)) = true := by simp; omega
              clear h10 h47 h92 hk1
              go_wp2_with fail
              go_ret2
              exact ⟨by rw [HV.out]; rfl, hbw⟩
            · have hk2 : k + 1 < s.size := by omega
              have tk : ((k : Int) + 1 == (s.size : Int)) = false := by simp; omega
              have hd2 := hid (drop_at s (k + 1) hk2)
              have hc256 := byte_lt (s[k + 1]'hk2)
              by_cases c47 : (s[k + 1]'hk2).toNat = 47
              · have HV := hid (HQ.out.none (by rw [hd.out, hd2.out]; exact qt_back1 _ _ _ h92 (Or.inl c47)))
                have u47 : (((s[k + 1]'hk2).toNat : Int) == 47) = true := by simp; omega
                clear h10 h47 h92 hk1 c47
                go_wp2_with fail
                go_ret2
                exact ⟨by rw [HV.out]; rfl, hbw⟩
              · have u47 : (((s[k + 1]'hk2).toNat : Int) == 47) = false := by simp; omega
                by_cases c10 : (s[k + 1]'hk2).toNat = 10
                · have HV := hid (HQ.out.none (by rw [hd.out, hd2.out]; exact qt_back1 _ _ _ h92 (Or.inr c10)))
                  have u10 : (((s[k + 1]'hk2).toNat : Int) == 10) = true := by simp; omega
                  clear h10 h47 h92 hk1 c47 c10
                  go_wp2_with fail
                  go_ret2
                  exact ⟨by rw [HV.out]; rfl, hbw⟩
                · have u10 : (((s[k + 1]'hk2).toNat : Int) == 10) = false := by simp; omega
                  have HS := hid (HQ.out.step (k' := k + 2) (more := [s[k]'hlt, s[k + 1]'hk2]) (by rw [hd.out, hd2.out, qt_back2 _ _ _ h92 c47 c10]; rfl))
                  have HX := hid (extract2 s k hk2)
                  clear h10 h47 h92 hk1 c47 c10
                  go_wp2_with fail
                  refine (put_t w.heap.size w.heap.size (47 :: acc) (s.extract k (k + 2)) _ hI (by simp; omega) (by rw [ByteArray.size_extract]; omega) hwz).mono ?_
                  rintro e w1 ⟨rfl, hI1, hb1, _⟩
                  go_wp2_with fail
                  go_roundw
                  case rel => exact ⟨k + 2, acc ++ [s[k]'hlt, s[k + 1]'hk2], by omega, by go_num, by rw [HX.out] at hI1; simpa using hI1, hbw.trans hb1, by simp; omega, HS.out⟩
                  case measure => simp [Go.RowKit.intOf]; omega
          · have t92 : (((s[k]'hlt).toNat : Int) == 92) = false := by simp; omega
            have HS := hid (HQ.out.step (k' := k + 1) (more := [s[k]'hlt]) (by rw [hd.out, qt_plain _ _ h10 h47 h92]; rfl))
            clear h10 h47 h92
            go_wp2_with fail
            refine (put_b w.heap.size w.heap.size (47 :: acc) (s[k]'hlt) _ hI (by simp; omega) hwz).mono ?_
            rintro e w1 ⟨rfl, hI1, hb1, _⟩
            go_wp2_with fail
            go_roundw
            case rel => exact ⟨k + 1, acc ++ [s[k]'hlt], by omega, by go_num, by simpa using hI1, hbw.trans hb1, by simp; omega, HS.out⟩
            case measure => simp [Go.RowKit.intOf]; omega
    · have HV := hid (HQ.out.done (by omega))
      go_wp2_with fail
      refine (put_b w.heap.size w.heap.size (47 :: acc) 47 _ hI (by simp; omega) hwz).mono ?_
      rintro e w1 ⟨rfl, hI1, hb1, _⟩
      have hwz1 := hb1.size
      go_wp2_with fail
      refine (take_t w.heap.size w.heap.size (47 :: acc ++ [47]) _ hI1 (by omega)).mono ?_
      rintro e w2 ⟨rfl, hb2, _⟩
      go_wp2_with fail
      go_ret2
      exact ⟨by rw [HV.out]; rfl, (hbw.trans hb1).trans hb2⟩

end Go.Proofs.YtonofnjgefoieaaDoor
