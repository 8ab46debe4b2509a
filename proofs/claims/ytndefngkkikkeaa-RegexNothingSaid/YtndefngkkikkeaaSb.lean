/- regex.Show: what it shows, and showBytes. -/
import Derived.Test.YtndefngkkikkeaaSa
import Derived.Test.YtndefngkkikkeaaBu
namespace Go.Proofs.X3
def hexd (k : Nat) : UInt8 := if k < 10 then UInt8.ofNat (48 + k) else UInt8.ofNat (87 + k)
def hexB (n : Nat) : List UInt8 := [92, 120, hexd (n / 16), hexd (n % 16)]
/-- The bytes of a regex below n, as they are shown. -/
def shownTo (r : RX) : Nat → List UInt8
  | 0 => []
  | n + 1 => shownTo r n ++ (if hasX r n then hexB n else [])
def bytesX (r : RX) : List UInt8 := 91 :: (shownTo r 256 ++ [93])
mutual
def showX : RX → List UInt8
  | .empty => [40, 41]
  | .bytes a b c d => bytesX (.bytes a b c d)
  | .cat l => 40 :: (seqX [] 0 l ++ [41])
  | .alt l => 40 :: (seqX [124] 0 l ++ [41])
  | .star r => showX r ++ [42]
def seqX (sep : List UInt8) (k : Nat) : List RX → List UInt8
  | [] => []
  | r :: l => (if k = 0 then [] else sep) ++ showX r ++ seqX sep (k + 1) l
end
theorem seqX_drop (sep : List UInt8) (l : List RX) (k : Nat) (hk : k < l.length) : seqX sep k (l.drop k) = (if k = 0 then [] else sep) ++ showX l[k] ++ seqX sep (k + 1) (l.drop (k + 1)) := by
  rw [List.drop_eq_getElem_cons hk]; rfl
theorem shownTo_len (r : RX) (n : Nat) : (shownTo r n).length ≤ 4 * n := by
  induction n with
  | zero => simp [shownTo]
  | succ n ih => simp only [shownTo, List.length_append]; split <;> simp [hexB] <;> omega
theorem bytesX_len (r : RX) : (bytesX r).length ≤ 1026 := by
  have := shownTo_len r 256
  simp [bytesX]; omega
end Go.Proofs.X3
namespace Go.Proofs.Ytndefngkkikkeaa
open Go Go.RowKit Go.Lib
set_option linter.unusedVariables false
set_option linter.unusedSimpArgs false

theorem bldT_below {B b : Nat} {l : List UInt8} {w w' : World} (h : BldT B b l w) (hb : Below w.heap.size w w') : BldT B b l w' := by
  have go : ∀ p, Lib.BuilderAtF 53 5 B b p (Lib.byteCells l) w → Lib.BuilderAtF 53 5 B b p (Lib.byteCells l) w' := by
    intro p hp
    have hlt := hp.lt
    obtain ⟨h1, v, h2, h3, h4⟩ := hp
    refine ⟨h1, v, (hb.block b hlt).trans h2, ?_, h4⟩
    exact h3.kept (row := none) ⟨hb.os, hb.tape, hb.output, hb.size, fun k hk _ => hb.block k hk⟩ (Classical.em _)
  rcases h with h | h
  · exact .inl (go _ h)
  · exact .inr (go _ h)
theorem bldT_lt {B b : Nat} {l : List UInt8} {w : World} (h : BldT B b l w) : b < w.heap.size := by
  rcases h with h | h
  · exact h.lt
  · exact h.lt
theorem kept_box {b k : Nat} {w w' : World} {o : Obj} (h : Lib.OthersKept 5 (some b) w w') (hk : w.heap[k]? = some o) (hkb : k ≠ b) (hne : ∀ cs fz, o ≠ .cells cs 5 fz) : w'.heap[k]? = some o := h k o hk (fun e => hkb (Option.some.inj e)) hne

theorem hexd_fin : ∀ k : Fin 16, (ByteArray.mk #[48, 49, 50, 51, 52, 53, 54, 55, 56, 57, 97, 98, 99, 100, 101, 102])[k.val]'(k.isLt) = X3.hexd k.val := by decide
theorem hexd_at (k : Nat) (hk : k < 16) (h : k < (ByteArray.mk #[48, 49, 50, 51, 52, 53, 54, 55, 56, 57, 97, 98, 99, 100, 101, 102]).size) : (ByteArray.mk #[48, 49, 50, 51, 52, 53, 54, 55, 56, 57, 97, 98, 99, 100, 101, 102])[k]'h = X3.hexd k := hexd_fin ⟨k, hk⟩

set_option maxRecDepth 100000 in
set_option maxHeartbeats 4000000 in
theorem showBytes_any {S : Nat → Prop} {w9 : World} {r : X3.RX} {v : Value} (hR : RepS S w9 r v) (B b : Nat) (acc : List UInt8) (w : World) (hB : BldT B b acc w) (hl : acc.length ≤ 90000000) (hBw : B ≤ w.heap.size) :
    Calls Try.prog 38 #[.pointer (some ⟨b, 0, none⟩), v] w fun e w' => e = .returned (.tuple #[]) ∧ (BldT B b (acc ++ X3.bytesX r) w' ∧ Below B w w') := by
  have KH := hid (fun n hn w => has_any hR n hn w)
  obtain ⟨ka, kx, ky, kz, ku, ko, kn, kc, rfl⟩ := hR.shape
  clear hR
  have hblt := bldT_lt hB
  obtain ⟨w0, e0⟩ : ∃ w0, w.alloc (.cells #[.int .i64 ka, .int .u64 kx, .int .u64 ky, .int .u64 kz, .int .u64 ku, .slice ko kn kc] 28) = w0 := ⟨_, rfl⟩
  have hb0 : Below w.heap.size w w0 := by rw [← e0]; exact (Below.refl _ _).alloc (Nat.le_refl _) _
  have hz0 : w0.heap[w.heap.size]? = some (.cells #[.int .i64 ka, .int .u64 kx, .int .u64 ky, .int .u64 kz, .int .u64 ku, .slice ko kn kc] 28 (0, 0)) := by rw [← e0]; exact new_block _ _
  have hs0 : w0.heap.size = w.heap.size + 1 := by rw [← e0]; simp
  have hB0 : BldT B b acc w0 := bldT_below hB hb0
  have K1 := hid (put_b B b acc 91 w0 hB0 (by omega) (by omega))
  have HZ0 := hid hz0
  have HB0 := hid (hb0.mono hBw)
  clear hB hB0 hb0 hz0 hs0
  go_enter Try.func38, Try.ntmps38
  go_wp2_with fail
  refine K1.out.mono ?_
  rintro e w1 ⟨rfl, hI1, hb1, hk1⟩
  have hz1 := kept_box hk1 HZ0.out (by omega) (by intro cs fz h; cases h)
  have hst : BldT B b (acc ++ [91] ++ X3.shownTo r 0) w1 ∧ Below B w w1 ∧ w1.heap[w.heap.size]? = some (.cells #[.int .i64 ka, .int .u64 kx, .int .u64 ky, .int .u64 kz, .int .u64 ku, .slice ko kn kc] 28 (0, 0)) := ⟨by simpa [X3.shownTo] using hI1, HB0.out.trans hb1, hz1⟩
  have HST := hid hst
  clear hst hI1 hb1 hk1 hz1 K1 e0
  go_wp2_with fail
  go_loopg [7] 256 (fun gk t7 wr => ∃ n : Nat, Aside (n ≤ 256 ∧ gk = 256 - n ∧ t7 = .int .i64 (n : Int) ∧ BldT B b (acc ++ [91] ++ X3.shownTo r n) wr ∧ Below B w wr ∧ wr.heap[w.heap.size]? = some (.cells #[.int .i64 ka, .int .u64 kx, .int .u64 ky, .int .u64 kz, .int .u64 ku, .slice ko kn kc] 28 (0, 0))))
  case atStart => exact ⟨0, Nat.zero_le _, rfl, rfl, HST.out⟩
  case round =>
    clear HST
    obtain ⟨n, hst⟩ := hrel
    obtain ⟨hn, hgk, e7, hI, hbl, hbx⟩ := hst.out
    subst e7
    clear hst
    by_cases hlt : n < 256
    · have h1 : (n : Int) < 256 := by omega
      have h0 : (0 : Int) ≤ (n : Int) := by omega
      obtain ⟨p0, p1, p2, p3, p4, p5⟩ := cells6 hbx
      have HI := hid hI
      have HBL := hid hbl
      have HBX := hid hbx
      have KN := hid (KH.out n hlt)
      have hwr : IntKind.u8.wrap (n : Int) = (n : Int) := by rw [IntKind.wrap_u8]; omega
      clear hI hbl hbx
      go_wp2_with fail
      refine (KN.out _).mono ?_
      rintro e w2 ⟨rfl, hb2⟩
      have hwl := HBL.out.size
      have hb2l := hb2.size
      have hI2 := bldT_below HI.out hb2
      have hbl2 : Below B w w2 := HBL.out.trans (hb2.mono (by omega))
      have hx2 := (hb2.block w.heap.size (Array.getElem?_eq_some_iff.1 HBX.out).1).trans HBX.out
      have hsl := X3.shownTo_len r n
      by_cases hxx : X3.hasX r n = true
      · rw [hxx]
        have K1 := hid (put_t B b _ ⟨#[92, 120]⟩ w2 hI2 (by simp; omega) (by decide) (by omega))
        have HX2 := hid hx2
        have HBL2 := hid hbl2
        have HXX := hid hxx
        clear hI2 hbl2 hx2 hxx hb2 p0 p1 p2 p3 p4 p5
        go_wp2_with fail
        refine K1.out.mono ?_
        rintro e w3 ⟨rfl, hI3, hb3, hk3⟩
        have hx3 := kept_box hk3 HX2.out (by omega) (by intro cs fz h; cases h)
        have hl3 := hb3.size
        have K4 := hid (put_b B b _ (X3.hexd (n / 16)) w3 hI3 (by simp; omega) (by omega))
        have HX3 := hid hx3
        have HBL3 := hid (HBL2.out.trans hb3)
        clear hI3 hb3 hk3 hx3 K1
        go_wp2_with fail
        rw [hexd_at (n / 16) (by omega)]
        refine K4.out.mono ?_
        rintro e w4 ⟨rfl, hI4, hb4, hk4⟩
        have hx4 := kept_box hk4 HX3.out (by omega) (by intro cs fz h; cases h)
        have hl4 := hb4.size
        have K5 := hid (put_b B b _ (X3.hexd (n % 16)) w4 hI4 (by simp; omega) (by omega))
        have HX4 := hid hx4
        have HBL4 := hid (HBL3.out.trans hb4)
        clear hI4 hb4 hk4 hx4 K4
        go_wp2_with fail
        rw [hexd_at (n % 16) (by omega)]
        refine K5.out.mono ?_
        rintro e w5 ⟨rfl, hI5, hb5, hk5⟩
        have hx5 := kept_box hk5 HX4.out (by omega) (by intro cs fz h; cases h)
        have hn5 : BldT B b (acc ++ [91] ++ X3.shownTo r (n + 1)) w5 := by
          rw [X3.shownTo, HXX.out, if_pos rfl, ← List.append_assoc]
          simpa [X3.hexB] using hI5
        have HN5 := hid (⟨hn5, HBL4.out.trans hb5, hx5⟩ : _ ∧ _ ∧ _)
        clear hI5 hb5 hk5 hx5 hn5 K5
        have a0 : (0 : Int) ≤ (n : Int) + 1 := by omega
        have a1 : (n : Int) + 1 < 9223372036854775808 := by omega
        go_wp2_with fail
        go_roundg (256 - (n + 1))
        case measure => omega
        case rel => exact ⟨n + 1, by omega, rfl, rfl, HN5.out⟩
      · have hxf : X3.hasX r n = false := by cases h : X3.hasX r n with
          | false => rfl
          | true => exact absurd h hxx
        rw [hxf]
        have hn5 : BldT B b (acc ++ [91] ++ X3.shownTo r (n + 1)) w2 := by
          have e : X3.shownTo r (n + 1) = X3.shownTo r n := by rw [X3.shownTo, hxf]; simp
          rw [e]; exact hI2
        have HN5 := hid (⟨hn5, hbl2, hx2⟩ : _ ∧ _ ∧ _)
        clear hn5 hbl2 hx2 hI2 hxx hxf hb2
        have a0 : (0 : Int) ≤ (n : Int) + 1 := by omega
        have a1 : (n : Int) + 1 < 9223372036854775808 := by omega
        go_wp2_with fail
        go_roundg (256 - (n + 1))
        case measure => omega
        case rel => exact ⟨n + 1, by omega, rfl, rfl, HN5.out⟩
    · have hn2 : n = 256 := by omega
      subst hn2
      have h1 : ¬ ((256 : Nat) : Int) < 256 := by omega
      have hsl := X3.shownTo_len r 256
      have hwl := hbl.size
      have K6 := hid (put_b B b _ 93 wr hI (by simp; omega) (by omega))
      have HBL := hid hbl
      clear hI hbl hbx
      go_wp2_with fail
      refine K6.out.mono ?_
      rintro e w3 ⟨rfl, hI3, hb3, hk3⟩
      have hf : BldT B b (acc ++ X3.bytesX r) w3 := by
        unfold X3.bytesX
        simpa using hI3
      have HF := hid hf
      have HB3 := hid (HBL.out.trans hb3)
      clear hf hI3 hb3 hk3 K6
      go_wp2_with fail
      go_end0
      exact ⟨rfl, HF.out, HB3.out⟩

end Go.Proofs.Ytndefngkkikkeaa
