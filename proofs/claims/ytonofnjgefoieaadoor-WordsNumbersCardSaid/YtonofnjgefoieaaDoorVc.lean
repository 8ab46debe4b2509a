/- The walk of the law WordsNumbers. -/
import Derived.Test.YtonofnjgefoieaaDoorVb
namespace Go.Proofs.YtonofnjgefoieaaDoor
open Go Go.RowKit Go.Lib Go.Proofs.W8
set_option linter.unusedVariables false

theorem dig_step (q r : Nat) (l : List UInt8) (h : q * 10 ^ l.length + numL l = r) (b : UInt8) (hb : b.toNat = 48 + q % 10) : (q / 10) * 10 ^ (b :: l).length + numL (b :: l) = r := by
  rw [numL_cons, hb, List.length_cons, Nat.pow_succ', ← Nat.mul_assoc, ← Nat.add_assoc, ← h]
  have e : 48 + q % 10 - 48 = q % 10 := by omega
  rw [e, ← Nat.add_mul]
  have : q / 10 * 10 + q % 10 = q := by omega
  rw [this]
theorem dig_len (q r : Nat) (l : List UInt8) (h : q * 10 ^ l.length + numL l = r) (hr : r < 10000000) (hq : 0 < q) : l.length ≤ 6 := by
  rcases Nat.lt_or_ge l.length 7 with h7 | h7
  · omega
  · have h1 : 10 ^ 7 ≤ 10 ^ l.length := Nat.pow_le_pow_right (by decide) h7
    have h2 : 1 * 10 ^ l.length ≤ q * 10 ^ l.length := Nat.mul_le_mul_right _ hq
    omega

def emptyN (v : Value) : Nat := match v with | .string s => if s.size = 0 then 1 else 0 | _ => 0

theorem bs_cons (b : UInt8) (l : List UInt8) : bs [b] ++ bs l = bs (b :: l) := by
  apply Go.WideShapes.bytes_inj
  simp [bs, ByteArray.data_append]

structure Digs (r q : Nat) (l : List UInt8) : Prop where
  sum : q * 10 ^ l.length + numL l = r
  all : ∀ b ∈ l, dg b = true
  len : l.length ≤ 7

theorem Digs.step {r q : Nat} {l : List UInt8} (h : Digs r q l) (hr : r < 10000000) (hq : 0 < q ∨ l = []) : Digs r (q / 10) (UInt8.ofNat (48 + q % 10) :: l) := by
  have hb : (UInt8.ofNat (48 + q % 10)).toNat = 48 + q % 10 := by simp; omega
  refine ⟨dig_step q r l h.sum _ hb, ?_, ?_⟩
  · intro b hb2
    rcases List.mem_cons.1 hb2 with e | e
    · rw [e]; simp [W8.dg]; omega
    · exact h.all b e
  · rcases hq with hq | hq
    · have := dig_len q r l h.sum hr hq; simp; omega
    · subst hq; simp

theorem Digs.words {r : Nat} {l : List UInt8} (h : Digs r 0 l) (hl : l ≠ []) : W8.words l = ([⟨1, l, r, 0⟩, ⟨4, [], 0, l.length⟩], 0, 0) ∧ ∃ x, W8.words (48 :: l) = ([⟨1, x, r, 0⟩, ⟨4, [], 0, l.length + 1⟩], 0, 0) := by
  have h1 := words_digits l hl (by have := h.len; omega) h.all
  have h2 := words_digits (48 :: l) (by simp) (by have := h.len; simp; omega) (by
    intro b hb
    rcases List.mem_cons.1 hb with e | e
    · rw [e]; rfl
    · exact h.all b e)
  have e : numL l = r := by have := h.sum; simpa using this
  have e2 : numL (48 :: l) = r := by rw [numL_cons, e]; simp
  rw [e] at h1
  rw [e2] at h2
  exact ⟨h1, _, h2⟩

theorem size0 {s : ByteArray} (h : s.size = 0) : s = { data := #[] } := by
  cases s; rename_i d; congr; exact Array.eq_empty_of_size_eq_zero h

set_option maxRecDepth 100000 in
set_option maxHeartbeats 4000000 in
theorem numbers_walk (n : Int) (w : World) (h0 : 0 ≤ n) (h1 : n ≤ 4294967295) : Calls Tryd.prog 8 #[.int .u32 n] w fun e w' => e = .returned (.bool true) ∧ Below w.heap.size w w' := by
  have kw := hid fun w => word_works w
  obtain ⟨r, hr, hr7⟩ : ∃ r : Nat, n % 10000000 = (r : Int) ∧ r < 10000000 := ⟨(n % 10000000).toNat, by omega, by omega⟩
  have HRr := hid hr
  clear hr
  go_enter Tryd.func8, Tryd.ntmps8
  go_wp2_with fail
  refine (kw.out _).mono ?_
  rintro e w1 ⟨rfl, hb1⟩
  go_wp2_with fail
  go_loopw [4, 5] (fun s m wr => ∃ (q : Nat) (l : List UInt8), s = .string (bs l) ∧ m = .int .u32 (q : Int) ∧ Digs r q l ∧ q ≤ r ∧ Below w.heap.size w wr) (fun s m _ => (Go.RowKit.intOf m).toNat + emptyN s)
  case atStart => exact ⟨r, [], rfl, by rw [HRr.out], ⟨by simp [numL], by simp, by simp⟩, Nat.le_refl _, hb1⟩
  case round =>
    obtain ⟨q, l, rfl, rfl, hd, hqr, hbr⟩ := hrel
    have hbz := hbr.size
    by_cases hc : 0 < q ∨ l = []
    · have HD := hid (hd.step hr7 hc)
      have hbyte : ((UInt8.ofNat (48 + q % 10)).toNat : Int) = 48 + (q : Int) % 10 := by simp; omega
      have HC := hid fun w => one_byte w (48 + (q : Int) % 10) (UInt8.ofNat (48 + q % 10)) hbyte
      have hS : (bs l).size = l.length := by show l.toArray.size = _; simp
      have HB := hid (bs_cons (UInt8.ofNat (48 + q % 10)) l)
      have hm0 : emptyN (.string (bs (UInt8.ofNat (48 + q % 10) :: l))) = 0 := by
        have : (bs (UInt8.ofNat (48 + q % 10) :: l)).size = l.length + 1 := by show (List.toArray _).size = _; simp
        simp only [emptyN, this]; simp
      have hm1 : 0 < q ∨ emptyN (.string (bs l)) = 1 := by
        rcases hc with h | h
        · exact Or.inl h
        · right; subst h; rfl
      have kc := HC.out wr
      have hb2 := hbr.alloc hbz (.cells #[.int .u8 (48 + (q : Int) % 10)] 5)
      have hl7 := hd.len
      have hx1 : (bs [UInt8.ofNat (48 + q % 10)]).size = 1 := rfl
      clear hd hbyte HC
      generalize UInt8.ofNat (48 + q % 10) = b at *
      generalize bs [b] = X at *
      by_cases hq0 : 0 < q
      · clear hc
        generalize bs l = S at *
        have hS7 : S.size ≤ 7 := by omega
        have hX7 : X.size ≤ 7 := by omega
        clear hS hx1
        go_wp2_with fail
        go_roundw
        case rel => exact ⟨q / 10, b :: l, by rw [HB.out], by go_num, HD.out, by omega, hb2⟩
        case measure => rw [HB.out, hm0]; simp [Go.RowKit.intOf]; omega
      · have hl : l = [] := hc.resolve_left hq0
        obtain rfl : q = 0 := by omega
        subst hl
        have hS0 : bs [] = { data := #[] } := rfl
        rw [hS0] at HB
        rw [hS0]
        simp only [Int.natCast_zero, Int.zero_emod, Int.add_zero] at kc hb2 hm0 HB
        clear hc hS hS0
        go_wp2_with fail
        go_roundw
        case rel => exact ⟨0, [b], by rw [HB.out], by go_num, by have := HD.out; simpa using this, by omega, hb2⟩
        case measure => simp [Go.RowKit.intOf, emptyN, hx1]; split <;> first | decide | (rename_i h; exact absurd rfl h)
    · have hq : q = 0 := by
        rcases Nat.eq_zero_or_pos q with h | h
        · exact h
        · exact absurd (Or.inl h) hc
      subst hq
      have hl : l ≠ [] := fun h => hc (Or.inr h)
      obtain ⟨hw1, x, hw2⟩ := hd.words hl
      have hS : (bs l).size = l.length := by show l.toArray.size = _; simp
      have hlp : 0 < l.length := List.length_pos_iff.2 hl
      have he := empty_no (s := bs l) (by omega)
      have hll := hd.len
      have k1 := hid fun w => Words_any (bs l) w (by unfold maxLen; omega)
      have hs2 : (({ data := #[48] } : ByteArray) ++ bs l).size = 1 + l.length := by simp [ByteArray.size_append, hS]; rfl
      have k2 := hid fun w => Words_any ({ data := #[48] } ++ bs l) w (by unfold maxLen; omega)
      have e1 : (bs l).data.toList = l := rfl
      have e2 : (({ data := #[48] } : ByteArray) ++ bs l).data.toList = 48 :: l := by simp [ByteArray.data_append, bs]
      rw [e1, hw1] at k1
      rw [e2, hw2] at k2
      clear hw1 hw2 e1 e2 hs2 hd hc hl kw
      generalize hSl : bs l = S at *
      have HSl := hid hSl
      clear hSl
      have hS7 : S.size ≤ 7 := by omega
      clear hS
      go_wp2_with fail
      refine (k1.out _).mono ?_
      rintro e w2 ⟨v1, rfl, hr1, hb2⟩
      obtain ⟨a1, cap1, rfl, hc1, ho1⟩ := hr1.opened
      obtain ⟨g1, rfl, hC1, hg1, _⟩ := ho1 (by simp)
      go_wp2_with fail
      refine (k2.out _).mono ?_
      rintro e w3 ⟨v2, rfl, hr2, hb3⟩
      obtain ⟨a2, cap2, rfl, hc2, ho2⟩ := hr2.opened
      obtain ⟨g2, rfl, hC2, hg2, _⟩ := ho2 (by simp)
      obtain ⟨p1, p2, p3, p4⟩ := hC1 w3 hb3 0 (by simp)
      obtain ⟨q1, q2, q3, q4⟩ := hC2 w3 (Below.refl _ _) 0 (by simp)
      have hb4 : Below w.heap.size w w3 := (hbr.trans (hb2.mono hbr.size)).trans (hb3.mono (Nat.le_trans hbr.size hb2.size))
      have hSl : bs l = S := HSl.out
      simp only [List.getElem_cons_zero, Nat.zero_mul, Nat.zero_add] at p1 p2 p3 p4 q1 q2 q3 q4
      rw [hSl] at p2
      rw [← HRr.out] at p3 q3
      simp at p1 q1 hc1 hc2
      clear hSl hC1 hC2 ho1 ho2 hr1 hr2 p4 q4 q2
      go_wp2_with fail
      go_ret
      exact ⟨rfl, hb4⟩

end Go.Proofs.YtonofnjgefoieaaDoor
