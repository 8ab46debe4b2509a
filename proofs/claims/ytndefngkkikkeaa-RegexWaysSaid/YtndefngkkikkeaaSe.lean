/- regex.Show: what it shows, and showBytes. -/
import Derived.Test.YtndefngkkikkeaaSa
import Derived.Test.YtndefngkkikkeaaBu
namespace Go.Proofs.X3
def hexd (k : Nat) : UInt8 := if k < 10 then UInt8.ofNat (48 + k) else UInt8.ofNat (87 + k)
def hexB (n : Nat) : List UInt8 := [92, 120, hexd (n / 16), hexd (n % 16)]
/-- The bytes of a regex below n, as they are shown. -/
def shownTo (r : RX) : Nat → List UInt8
  | 0 => []
  | n + 1 => shownTo r n ++ (if hasX r n then hexB n else [])
def bytesX (r : RX) : List UInt8 := 91 :: (shownTo r 256 ++ [93])
mutual
def showX : RX → List UInt8
  | .empty => [40, 41]
  | .bytes a b c d => bytesX (.bytes a b c d)
  | .cat l => 40 :: (seqX [] 0 l ++ [41])
  | .alt l => 40 :: (seqX [124] 0 l ++ [41])
  | .star r => showX r ++ [42]
def seqX (sep : List UInt8) (k : Nat) : List RX → List UInt8
  | [] => []
  | r :: l => (if k = 0 then [] else sep) ++ showX r ++ seqX sep (k + 1) l
end
theorem seqX_drop (sep : List UInt8) (l : List RX) (k : Nat) (hk : k < l.length) : seqX sep k (l.drop k) = (if k = 0 then [] else sep) ++ showX l[k] ++ seqX sep (k + 1) (l.drop (k + 1)) := by
  rw [List.drop_eq_getElem_cons hk]; rfl
theorem shownTo_len (r : RX) (n : Nat) : (shownTo r n).length ≤ 4 * n := by
  induction n with
  | zero => simp [shownTo]
  | succ n ih => simp only [shownTo, List.length_append]; split <;> simp [hexB] <;> omega
theorem bytesX_len (r : RX) : (bytesX r).length ≤ 1026 := by
  have := shownTo_len r 256
  simp [bytesX]; omega
end Go.Proofs.X3
namespace Go.Proofs.Ytndefngkkikkeaa
open Go Go.RowKit Go.Lib
set_option linter.unusedVariables false
set_option linter.unusedSimpArgs false

theorem bldT_below {B b : Nat} {l : List UInt8} {w w' : World} (h : BldT B b l w) (hb : Below w.heap.size w w') : BldT B b l w' := by
  have go : ∀ p, Lib.BuilderAtF 53 5 B b p (Lib.byteCells l) w → Lib.BuilderAtF 53 5 B b p (Lib.byteCells l) w' := by
    intro p hp
    have hlt := hp.lt
    obtain ⟨h1, v, h2, h3, h4⟩ := hp
    refine ⟨h1, v, (hb.block b hlt).trans h2, ?_, h4⟩
    exact h3.kept (row := none) ⟨hb.os, hb.tape, hb.output, hb.size, fun k hk _ => hb.block k hk⟩ (Classical.em _)
  rcases h with h | h
  · exact .inl (go _ h)
  · exact .inr (go _ h)
theorem bldT_lt {B b : Nat} {l : List UInt8} {w : World} (h : BldT B b l w) : b < w.heap.size := by
  rcases h with h | h
  · exact h.lt
  · exact h.lt
theorem kept_box {b k : Nat} {w w' : World} {o : Obj} (h : Lib.OthersKept 5 (some b) w w') (hk : w.heap[k]? = some o) (hkb : k ≠ b) (hne : ∀ cs fz, o ≠ .cells cs 5 fz) : w'.heap[k]? = some o := h k o hk (fun e => hkb (Option.some.inj e)) hne

theorem hexd_fin : ∀ k : Fin 16, (ByteArray.mk #[48, 49, 50, 51, 52, 53, 54, 55, 56, 57, 97, 98, 99, 100, 101, 102])[k.val]'(k.isLt) = X3.hexd k.val := by decide
theorem hexd_at (k : Nat) (hk : k < 16) (h : k < (ByteArray.mk #[48, 49, 50, 51, 52, 53, 54, 55, 56, 57, 97, 98, 99, 100, 101, 102]).size) : (ByteArray.mk #[48, 49, 50, 51, 52, 53, 54, 55, 56, 57, 97, 98, 99, 100, 101, 102])[k]'h = X3.hexd k := hexd_fin ⟨k, hk⟩

set_option maxRecDepth 100000 in
set_option maxHeartbeats 4000000 in
theorem showBytes_any {S : Nat → Prop} {w9 : World} {r : X3.RX} {v : Value} (hR : RepS S w9 r v) (B b : Nat) (acc : List UInt8) (w : World) (hB : BldT B b acc w) (hl : acc.length ≤ 90000000) (hBw : B ≤ w.heap.size) :
    Calls Try.prog 38 #[.pointer (some ⟨b, 0, none⟩), v] w fun e w' => e = .returned (.tuple #[]) ∧ (BldT B b (acc ++ X3.bytesX r) w' ∧ Below B w w') := by
  have KH := hid (fun n hn w => has_any hR n hn w)
  obtain ⟨ka, kx, ky, kz, ku, ko, kn, kc, rfl⟩ := hR.shape
  clear hR
  have hblt := bldT_lt hB
  obtain ⟨w0, e0⟩ : ∃ w0, w.alloc (.cells #[.int .i64 ka, .int .u64 kx, .int .u64 ky, .int .u64 kz, .int .u64 ku, .slice ko kn kc] 28) = w0 := ⟨_, rfl⟩
  have hb0 : Below w.heap.size w w0 := by rw [← e0]; exact (Below.refl _ _).alloc (Nat.le_refl _) _
  have hz0 : w0.heap[w.heap.size]? = some (.cells #[.int .i64 ka, .int .u64 kx, .int .u64 ky, .int .u64 kz, .int .u64 ku, .slice ko kn kc] 28 (0, 0)) := by rw [← e0]; exact new_block _ _
  have hs0 : w0.heap.size = w.heap.size + 1 := by rw [← e0]; simp
  have hB0 : BldT B b acc w0 := bldT_below hB hb0
  have K1 := hid (put_b B b acc 91 w0 hB0 (by omega) (by omega))
  have HZ0 := hid hz0
  have HB0 := hid (hb0.mono hBw)
  clear hB hB0 hb0 hz0 hs0
  go_enter Try.func38, Try.ntmps38
  go_wp2_with fail
  refine K1.out.mono ?_
  rintro e w1 ⟨rfl, hI1, hb1, hk1⟩
  have hz1 := kept_box hk1 HZ0.out (by omega) (by intro cs fz h; cases h)
  have hst : BldT B b (acc ++ [91] ++ X3.shownTo r 0) w1 ∧ Below B w w1 ∧ w1.heap[w.heap.size]? = some (.cells #[.int .i64 ka, .int .u64 kx, .int .u64 ky, .int .u64 kz, .int .u64 ku, .slice ko kn kc] 28 (0, 0)) := ⟨by simpa [X3.shownTo] using hI1, HB0.out.trans hb1, hz1⟩
  have HST := hid hst
  clear hst hI1 hb1 hk1 hz1 K1 e0
  go_wp2_with fail
  go_loopg [7] 256 (fun gk t7 wr => ∃ n : Nat, Aside (n ≤ 256 ∧ gk = 256 - n ∧ t7 = .int .i64 (n : Int) ∧ BldT B b (acc ++ [91] ++ X3.shownTo r n) wr ∧ Below B w wr ∧ wr.heap[w.heap.size]? = some (.cells #[.int .i64 ka, .int .u64 kx, .int .u64 ky, .int .u64 kz, .int .u64 ku, .slice ko kn kc] 28 (0, 0))))
  case atStart => exact ⟨0, Nat.zero_le _, rfl, rfl, HST.out⟩
  case round =>
    clear HST
    obtain ⟨n, hst⟩ := hrel
    obtain ⟨hn, hgk, e7, hI, hbl, hbx⟩ := hst.out
    subst e7
    clear hst
    by_cases hlt : n < 256
    · have h1 : (n : Int) < 256 := by omega
      have h0 : (0 : Int) ≤ (n : Int) := by omega
      obtain ⟨p0, p1, p2, p3, p4, p5⟩ := cells6 hbx
      have HI := hid hI
      have HBL := hid hbl
      have HBX := hid hbx
      have KN := hid (KH.out n hlt)
      have hwr : IntKind.u8.wrap (n : Int) = (n : Int) := by rw [IntKind.wrap_u8]; omega
      clear hI hbl hbx
      go_wp2_with fail
      refine (KN.out _).mono ?_
      rintro e w2 ⟨rfl, hb2⟩
      have hwl := HBL.out.size
      have hb2l := hb2.size
      have hI2 := bldT_below HI.out hb2
      have hbl2 : Below B w w2 := HBL.out.trans (hb2.mono (by omega))
      have hx2 := (hb2.block w.heap.size (Array.getElem?_eq_some_iff.1 HBX.out).1).trans HBX.out
      have hsl := X3.shownTo_len r n
      by_cases hxx : X3.hasX r n = true
      · rw [hxx]
        have K1 := hid (put_t B b _ ⟨#[92, 120]⟩ w2 hI2 (by simp; omega) (by decide) (by omega))
        have HX2 := hid hx2
        have HBL2 := hid hbl2
        have HXX := hid hxx
        clear hI2 hbl2 hx2 hxx hb2 p0 p1 p2 p3 p4 p5
        go_wp2_with fail
        refine K1.out.mono ?_
        rintro e w3 ⟨rfl, hI3, hb3, hk3⟩
        have hx3 := kept_box hk3 HX2.out (by omega) (by intro cs fz h; cases h)
        have hl3 := hb3.size
        have K4 := hid (put_b B b _ (X3.hexd (n / 16)) w3 hI3 (by simp; omega) (by omega))
        have HX3 := hid hx3
        have HBL3 := hid (HBL2.out.trans hb3)
        clear hI3 hb3 hk3 hx3 K1
        go_wp2_with fail
        rw [hexd_at (n / 16) (by omega)]
        refine K4.out.mono ?_
        rintro e w4 ⟨rfl, hI4, hb4, hk4⟩
        have hx4 := kept_box hk4 HX3.out (by omega) (by intro cs fz h; cases h)
        have hl4 := hb4.size
        have K5 := hid (put_b B b _ (X3.hexd (n % 16)) w4 hI4 (by simp; omega) (by omega))
        have HX4 := hid hx4
        have HBL4 := hid (HBL3.out.trans hb4)
        clear hI4 hb4 hk4 hx4 K4
        go_wp2_with fail
        rw [hexd_at (n % 16) (by omega)]
        refine K5.out.mono ?_
        rintro e w5 ⟨rfl, hI5, hb5, hk5⟩
        have hx5 := kept_box hk5 HX4.out (by omega) (by intro cs fz h; cases h)
        have hn5 : BldT B b (acc ++ [91] ++ X3.shownTo r (n + 1)) w5 := by
          rw [X3.shownTo, HXX.out, if_pos rfl, ← List.append_assoc]
          simpa [X3.hexB] using hI5
        have HN5 := hid (⟨hn5, HBL4.out.trans hb5, hx5⟩ : _ ∧ _ ∧ _)
        clear hI5 hb5 hk5 hx5 hn5 K5
        have a0 : (0 : Int) ≤ (n : Int) + 1 := by omega
        have a1 : (n : Int) + 1 < 9223372036854775808 := by omega
        go_wp2_with fail
        go_roundg (256 - (n + 1))
        case measure => omega
        case rel => exact ⟨n + 1, by omega, rfl, rfl, HN5.out⟩
      · have hxf : X3.hasX r n = false := by cases h : X3.hasX r n with
          | false => rfl
          | true => exact absurd h hxx
        rw [hxf]
        have hn5 : BldT B b (acc ++ [91] ++ X3.shownTo r (n + 1)) w2 := by
          have e : X3.shownTo r (n + 1) = X3.shownTo r n := by rw [X3.shownTo, hxf]; simp
          rw [e]; exact hI2
        have HN5 := hid (⟨hn5, hbl2, hx2⟩ : _ ∧ _ ∧ _)
        clear hn5 hbl2 hx2 hI2 hxx hxf hb2
        have a0 : (0 : Int) ≤ (n : Int) + 1 := by omega
        have a1 : (n : Int) + 1 < 9223372036854775808 := by omega
        go_wp2_with fail
        go_roundg (256 - (n + 1))
        case measure => omega
        case rel => exact ⟨n + 1, by omega, rfl, rfl, HN5.out⟩
    · have hn2 : n = 256 := by omega
      subst hn2
      have h1 : ¬ ((256 : Nat) : Int) < 256 := by omega
      have hsl := X3.shownTo_len r 256
      have hwl := hbl.size
      have K6 := hid (put_b B b _ 93 wr hI (by simp; omega) (by omega))
      have HBL := hid hbl
      clear hI hbl hbx
      go_wp2_with fail
      refine K6.out.mono ?_
      rintro e w3 ⟨rfl, hI3, hb3, hk3⟩
      have hf : BldT B b (acc ++ X3.bytesX r) w3 := by
        unfold X3.bytesX
        simpa using hI3
      have HF := hid hf
      have HB3 := hid (HBL.out.trans hb3)
      clear hf hI3 hb3 hk3 K6
      go_wp2_with fail
      go_end0
      exact ⟨rfl, HF.out, HB3.out⟩

end Go.Proofs.Ytndefngkkikkeaa

/- regex.Show. -/
namespace Go.Proofs.Ytndefngkkikkeaa
open Go Go.RowKit Go.Lib
set_option linter.unusedVariables false
set_option linter.unusedSimpArgs false

theorem keepS_lt {B : Nat} {w w' : World} (h : Below B w w') : KeepS (fun g => g < B) w w' := ⟨h.size, fun g hg _ => h.block g hg⟩

/-- What show promises of a regex. -/
def ShowC (r : X3.RX) : Prop := ∀ (w : World) (v : Value) (B b : Nat) (acc : List UInt8), RepS (fun g => g < B) w r v → BldT B b acc w → acc.length + (X3.showX r).length ≤ 80000000 → B ≤ w.heap.size →
    Calls Try.prog 22 #[.pointer (some ⟨b, 0, none⟩), v] w fun e w' => e = .returned (.tuple #[]) ∧ (BldT B b (acc ++ X3.showX r) w' ∧ Below B w w')

set_option maxRecDepth 100000 in
set_option maxHeartbeats 4000000 in
theorem showKids_any (w : World) (l : List X3.RX) (g cap B b : Nat) (acc : List UInt8) (sp : ByteArray) (hl : RepLS (fun g => g < B) w l g 0) (hg : g < B) (hw : g < w.heap.size) (hcap : l.length ≤ cap) (hll : l.length < 9223372036854775808) (hsp : sp.size ≤ 1000)
    (hB : BldT B b acc w) (hlen : acc.length + (X3.seqX sp.data.toList 0 l).length + 2 ≤ 80000000) (hBw : B ≤ w.heap.size) (ih : ∀ (k : Nat) (hk : k < l.length), ShowC l[k]) :
    Calls Try.prog 35 #[.pointer (some ⟨b, 0, none⟩), .slice (some ⟨g, 0, none⟩) l.length cap, .string sp] w fun e w' => e = .returned (.tuple #[]) ∧ (BldT B b (acc ++ 40 :: (X3.seqX sp.data.toList 0 l ++ [41])) w' ∧ Below B w w') := by
  have IH := hid ih
  have HL := hid hl
  obtain ⟨R, hR⟩ : ∃ R, R = acc ++ [40] ++ X3.seqX sp.data.toList 0 l := ⟨_, rfl⟩
  have hRl : R.length + 1 ≤ 80000000 := by rw [hR]; simp; omega
  have hfin : acc ++ 40 :: (X3.seqX sp.data.toList 0 l ++ [41]) = R ++ [41] := by rw [hR]; simp
  rw [hfin]
  have K1 := hid (put_b B b acc 40 w hB (by omega) hBw)
  have HR := hid hR
  clear ih hl hR hfin hB
  go_enter Try.func35, Try.ntmps35
  go_wp2_with fail
  refine K1.out.mono ?_
  rintro e w1 ⟨rfl, hI1, hb1, _⟩
  have HI1 := hid hI1
  have HB1 := hid hb1
  clear hI1 hb1 K1
  go_wp2_with fail
  go_loopg [12] l.length (fun gk t12 wr => ∃ (k : Nat) (ac : List UInt8), Aside (k ≤ l.length ∧ gk = l.length - k ∧ t12 = .int .i64 (k : Int) ∧ BldT B b ac wr ∧ Below B w wr ∧ R = ac ++ X3.seqX sp.data.toList k (l.drop k)))
  case atStart => exact ⟨0, acc ++ [40], Nat.zero_le _, rfl, rfl, HI1.out, HB1.out, HR.out⟩
  case round =>
    clear HI1 HB1 HR
    obtain ⟨k, ac, hst⟩ := hrel
    obtain ⟨hk, hgk, e12, hI, hbl, hd⟩ := hst.out
    subst e12
    clear hst
    have hbs := hbl.size
    have hacl : ac.length ≤ R.length := by rw [hd]; simp
    by_cases hlt : k < l.length
    · obtain ⟨kd, x, y, z, u, kv, hRk, c0, c1, c2, c3, c4, c5⟩ := RepLS.at_ (HL.out.kept (keepS_lt hbl) hg hw) k hlt
      rw [Nat.zero_add] at c0 c1 c2 c3 c4 c5
      obtain ⟨ko, kn, kc, rfl⟩ := hRk.slice
      have h1 : (k : Int) < (l.length : Int) := by omega
      have h0 : (0 : Int) ≤ (k : Int) := by omega
      have a0 : (0 : Int) ≤ (k : Int) + 1 := by omega
      have a1 : (k : Int) + 1 < 9223372036854775808 := by omega
      rw [X3.seqX_drop _ l k hlt] at hd
      obtain ⟨wa, ea⟩ : ∃ wa, wr.alloc (.cells zero6 28) = wa := ⟨_, rfl⟩
      have hba : Below wr.heap.size wr wa := by rw [← ea]; exact (Below.refl _ _).alloc (Nat.le_refl _) _
      have hza : wa.heap[wr.heap.size]? = some (.cells zero6 28 (0, 0)) := by rw [← ea]; exact new_block _ _
      have hsa : wa.heap.size = wr.heap.size + 1 := by rw [← ea]; simp
      unfold zero6 at ea hza
      obtain ⟨n0, n1, n2, n3, n4, n5⟩ := cells6 hza
      obtain ⟨f0, f1, f2, f3, f4, f5⟩ := frozen6 hza
      obtain ⟨w8, e8, hz8, hg8, hs8⟩ := six hza (.int .i64 kd) (.int .u64 x) (.int .u64 y) (.int .u64 z) (.int .u64 u) (.slice ko kn kc)
      have hb8 : Below wr.heap.size wr w8 := below_fresh hba (by omega) (Nat.le_refl _) hg8
      have hblt := bldT_lt hI
      have hI8 := bldT_below hI hb8
      have hbl8 : Below B w w8 := hbl.trans (hb8.mono (by omega))
      have HRK := hid (hRk.kept (keepS_below hb8))
      have HZ8 := hid hz8
      have HBL8 := hid hbl8
      have HI8 := hid hI8
      have HD := hid hd
      have hs8' : wr.heap.size + 1 = w8.heap.size := by omega
      have HS8 := hid hs8'
      clear hRk hza hba hg8 hz8 hb8 hI8 hbl8 hI hbl hd hs8' hs8
      by_cases hk0 : k = 0
      · have t0 : ¬ 0 < k := by omega
        have HACC : R = ac ++ (X3.showX l[k] ++ X3.seqX sp.data.toList (k + 1) (l.drop (k + 1))) := by rw [HD.out, if_pos hk0]; simp
        have hlen3 : ac.length + (X3.showX l[k]).length ≤ 80000000 := by have := congrArg List.length HACC; simp only [List.length_append] at this; omega
        have KS := hid (IH.out k hlt w8 _ B b _ HRK.out HI8.out hlen3 (by have := HBL8.out.size; omega))
        have HA := hid HACC
        clear HACC hk0
        obtain ⟨y0, y1, y2, y3, y4, y5⟩ := cells6 HZ8.out
        go_wp2_with fail
        refine KS.out.mono ?_
        rintro e w5 ⟨rfl, hI5, hb5⟩
        have HN5 := hid (⟨hI5, HBL8.out.trans hb5, by rw [HA.out]; simp⟩ : BldT B b (ac ++ X3.showX l[k]) w5 ∧ Below B w w5 ∧ R = ac ++ X3.showX l[k] ++ X3.seqX sp.data.toList (k + 1) (l.drop (k + 1)))
        clear hI5 hb5 KS HA
        go_wp2_with fail
        go_roundg (l.length - (k + 1))
        case measure => omega
        case rel => exact ⟨k + 1, ac ++ X3.showX l[k], by omega, rfl, rfl, HN5.out⟩
      · have t0 : 0 < k := by omega
        have HACC : R = (ac ++ sp.data.toList) ++ (X3.showX l[k] ++ X3.seqX sp.data.toList (k + 1) (l.drop (k + 1))) := by rw [HD.out, if_neg hk0]; simp
        have hlen3 : (ac ++ sp.data.toList).length + (X3.showX l[k]).length ≤ 80000000 := by have := congrArg List.length HACC; simp only [List.length_append] at this ⊢; omega
        have K2 := hid (put_t B b ac sp w8 HI8.out (by omega) (by omega) (by have := HBL8.out.size; omega))
        have HA := hid HACC
        clear HACC hk0
        go_wp2_with fail
        refine K2.out.mono ?_
        rintro e w9 ⟨rfl, hI9, hb9, hk9⟩
        have hz9 := kept_box hk9 HZ8.out (by omega) (by intro cs fz h; cases h)
        have hbl9 := HBL8.out.trans hb9
        have KS := hid (IH.out k hlt w9 _ B b _ (HRK.out.kept (keepS_lt hb9)) hI9 hlen3 (by have := hbl9.size; omega))
        obtain ⟨y0, y1, y2, y3, y4, y5⟩ := cells6 hz9
        have HBL9 := hid hbl9
        clear hI9 hb9 hk9 hz9 hbl9 K2
        go_wp2_with fail
        refine KS.out.mono ?_
        rintro e w5 ⟨rfl, hI5, hb5⟩
        have HN5 := hid (⟨hI5, HBL9.out.trans hb5, by rw [HA.out]; simp⟩ : BldT B b (ac ++ sp.data.toList ++ X3.showX l[k]) w5 ∧ Below B w w5 ∧ R = ac ++ sp.data.toList ++ X3.showX l[k] ++ X3.seqX sp.data.toList (k + 1) (l.drop (k + 1)))
        clear hI5 hb5 KS HA
        go_wp2_with fail
        go_roundg (l.length - (k + 1))
        case measure => omega
        case rel => exact ⟨k + 1, ac ++ sp.data.toList ++ X3.showX l[k], by omega, rfl, rfl, HN5.out⟩
    · have h1 : ¬ (k : Int) < (l.length : Int) := by omega
      obtain rfl : k = l.length := by omega
      rw [List.drop_length, X3.seqX, List.append_nil] at hd
      subst hd
      have K6 := hid (put_b B b R 41 wr hI (by omega) (by omega))
      have HBL := hid hbl
      clear hI hbl
      go_wp2_with fail
      refine K6.out.mono ?_
      rintro e w3 ⟨rfl, hI3, hb3, hk3⟩
      have HF := hid hI3
      have HB3 := hid (HBL.out.trans hb3)
      clear hI3 hb3 hk3 K6
      go_wp2_with fail
      go_end0
      exact ⟨rfl, HF.out, HB3.out⟩

end Go.Proofs.Ytndefngkkikkeaa

/- regex.show. -/
namespace Go.Proofs.X3
theorem showX_empty : showX .empty = [40, 41] := by rw [showX]
theorem showX_bytes (a b c d : Nat) : showX (.bytes a b c d) = bytesX (.bytes a b c d) := by rw [showX]
theorem showX_cat (l : List RX) : showX (.cat l) = 40 :: (seqX [] 0 l ++ [41]) := by rw [showX]
theorem showX_alt (l : List RX) : showX (.alt l) = 40 :: (seqX [124] 0 l ++ [41]) := by rw [showX]
theorem showX_star (r : RX) : showX (.star r) = showX r ++ [42] := by rw [showX]
end Go.Proofs.X3
namespace Go.Proofs.Ytndefngkkikkeaa
open Go Go.RowKit Go.Lib
set_option linter.unusedVariables false
set_option linter.unusedSimpArgs false

theorem nodeV_inj {k a b c d k' a' b' c' d' : Int} {kv kv' : Value} (h : nodeV k a b c d kv = nodeV k' a' b' c' d' kv') : k = k' ∧ a = a' ∧ b = b' ∧ c = c' ∧ d = d' ∧ kv = kv' := by
  simp only [nodeV, Value.agg.injEq, Array.mk.injEq, List.cons.injEq, Value.int.injEq, true_and, and_true] at h
  exact h

/-- A regex's box, at the head of show. -/
theorem show_box {B b : Nat} {acc : List UInt8} {w : World} (hB : BldT B b acc w) (hBw : B ≤ w.heap.size) (k x y z u : Int) (o : Option Addr) (n c : Nat) :
    ∃ w0, w.alloc (.cells #[.int .i64 k, .int .u64 x, .int .u64 y, .int .u64 z, .int .u64 u, .slice o n c] 28) = w0 ∧ BldT B b acc w0 ∧ Below B w w0 ∧ KeepS (fun g => g < B) w w0 ∧ w0.heap.size = w.heap.size + 1 ∧
      w0.heap[w.heap.size]? = some (.cells #[.int .i64 k, .int .u64 x, .int .u64 y, .int .u64 z, .int .u64 u, .slice o n c] 28 (0, 0)) := by
  have hb0 : Below w.heap.size w (w.alloc (.cells #[.int .i64 k, .int .u64 x, .int .u64 y, .int .u64 z, .int .u64 u, .slice o n c] 28)) := (Below.refl _ _).alloc (Nat.le_refl _) _
  exact ⟨_, rfl, bldT_below hB hb0, hb0.mono hBw, keepS_below hb0, by simp, new_block _ _⟩

set_option maxRecDepth 100000 in
set_option maxHeartbeats 1000000 in
theorem show_empty : ShowC .empty := by
  intro w v B b acc hR hB hlen hBw
  obtain ⟨k, x, y, z, u, o, n, c, rfl⟩ := hR.shape
  generalize hv : nodeV k x y z u (.slice o n c) = v at hR
  cases hR with
  | empty =>
    obtain ⟨rfl, rfl, rfl, rfl, rfl, q⟩ := nodeV_inj hv
    clear hv
    injection q with q1 q2 q3
    subst q1 q2 q3
    obtain ⟨w0, e0, hB0, hb0, _, hs0, hz0⟩ := show_box hB hBw 0 0 0 0 0 none 0 0
    rw [X3.showX_empty] at *
    obtain ⟨n0, n1, n2, n3, n4, n5⟩ := cells6 hz0
    have K1 := hid (put_t B b acc ⟨#[40, 41]⟩ w0 hB0 (by omega) (by decide) (by omega))
    have HB0 := hid hb0
    clear hB hB0 hb0 hz0 hs0
    go_enter Try.func22, Try.ntmps22
    go_wp2_with fail
    refine K1.out.mono ?_
    rintro e w1 ⟨rfl, hI1, hb1, _⟩
    have HF := hid (⟨hI1, HB0.out.trans hb1⟩ : _ ∧ _)
    clear hI1 hb1 K1
    go_wp2_with fail
    go_end0
    exact ⟨rfl, HF.out⟩

set_option maxRecDepth 100000 in
set_option maxHeartbeats 1000000 in
theorem show_bytes (p q r t : Nat) : ShowC (.bytes p q r t) := by
  intro w v B b acc hR hB hlen hBw
  rw [X3.showX_bytes] at *
  have K := hid (fun w hB hBw => showBytes_any hR B b acc w hB (by omega) hBw)
  generalize X3.bytesX (.bytes p q r t) = Z at *
  obtain ⟨k, x, y, z, u, o, n, c, rfl⟩ := hR.shape
  generalize hv : nodeV k x y z u (.slice o n c) = v at hR
  cases hR with
  | bytes _ _ _ _ h1 h2 h3 h4 =>
    obtain ⟨rfl, rfl, rfl, rfl, rfl, q⟩ := nodeV_inj hv
    clear hv
    injection q with q1 q2 q3
    subst q1 q2 q3
    obtain ⟨w0, e0, hB0, hb0, _, hs0, hz0⟩ := show_box hB hBw 1 p q r t none 0 0
    obtain ⟨n0, n1, n2, n3, n4, n5⟩ := cells6 hz0
    have K1 := hid (K.out w0 hB0 (by omega))
    have HB0 := hid hb0
    clear hB hB0 hb0 hz0 hs0 K
    go_enter Try.func22, Try.ntmps22
    go_wp2_with fail
    refine K1.out.mono ?_
    rintro e w1 ⟨rfl, hI1, hb1⟩
    have HF := hid (⟨hI1, HB0.out.trans hb1⟩ : _ ∧ _)
    clear hI1 hb1 K1
    go_wp2_with fail
    go_end0
    exact ⟨rfl, HF.out⟩

set_option maxRecDepth 100000 in
set_option maxHeartbeats 1000000 in
theorem show_cat (l : List X3.RX) (hl : l.length < 9223372036854775808) (ih : ∀ (k : Nat) (hk : k < l.length), ShowC l[k]) : ShowC (.cat l) := by
  intro w v B b acc hR hB hlen hBw
  rw [X3.showX_cat] at *
  obtain ⟨k, x, y, z, u, o, n, c, rfl⟩ := hR.shape
  generalize hv : nodeV k x y z u (.slice o n c) = v at hR
  cases hR with
  | cat _ g cap h hc hg hw h0 =>
    obtain ⟨rfl, rfl, rfl, rfl, rfl, q⟩ := nodeV_inj hv
    clear hv
    injection q with q1 q2 q3
    subst q1 q2 q3
    obtain ⟨w0, e0, hB0, hb0, hk0, hs0, hz0⟩ := show_box hB hBw 2 0 0 0 0 (some ⟨g, 0, none⟩) l.length c
    obtain ⟨n0, n1, n2, n3, n4, n5⟩ := cells6 hz0
    have K0 := showKids_any w0 l g c B b acc ⟨#[]⟩ (h.kept hk0 hg hw) hg (by omega) hc hl (by decide) hB0 (by simp only [List.length_cons, List.length_append, List.length_nil] at hlen; show _ + (X3.seqX [] 0 l).length + 2 ≤ _; omega) (by omega) ih
    rw [show (ByteArray.mk #[]).data.toList = [] from rfl] at K0
    generalize X3.seqX [] 0 l = Z at *
    have K1 := hid K0
    have HB0 := hid hb0
    clear hB hB0 hb0 hz0 hs0 K0 h ih hk0
    go_enter Try.func22, Try.ntmps22
    go_wp2_with fail
    refine K1.out.mono ?_
    rintro e w1 ⟨rfl, hI1, hb1⟩
    have HF := hid (⟨hI1, HB0.out.trans hb1⟩ : _ ∧ _)
    clear hI1 hb1 K1
    go_wp2_with fail
    go_end0
    exact ⟨rfl, HF.out⟩

set_option maxRecDepth 100000 in
set_option maxHeartbeats 1000000 in
theorem show_alt (l : List X3.RX) (hl : l.length < 9223372036854775808) (ih : ∀ (k : Nat) (hk : k < l.length), ShowC l[k]) : ShowC (.alt l) := by
  intro w v B b acc hR hB hlen hBw
  rw [X3.showX_alt] at *
  obtain ⟨k, x, y, z, u, o, n, c, rfl⟩ := hR.shape
  generalize hv : nodeV k x y z u (.slice o n c) = v at hR
  cases hR with
  | alt _ g cap h hc hg hw h0 =>
    obtain ⟨rfl, rfl, rfl, rfl, rfl, q⟩ := nodeV_inj hv
    clear hv
    injection q with q1 q2 q3
    subst q1 q2 q3
    obtain ⟨w0, e0, hB0, hb0, hk0, hs0, hz0⟩ := show_box hB hBw 3 0 0 0 0 (some ⟨g, 0, none⟩) l.length c
    obtain ⟨n0, n1, n2, n3, n4, n5⟩ := cells6 hz0
    have K0 := showKids_any w0 l g c B b acc ⟨#[124]⟩ (h.kept hk0 hg hw) hg (by omega) hc hl (by decide) hB0 (by simp only [List.length_cons, List.length_append, List.length_nil] at hlen; show _ + (X3.seqX [124] 0 l).length + 2 ≤ _; omega) (by omega) ih
    rw [show (ByteArray.mk #[124]).data.toList = [124] from rfl] at K0
    generalize X3.seqX [124] 0 l = Z at *
    have hlp : 0 < l.length := List.length_pos_iff.2 h0
    have K1 := hid K0
    have HB0 := hid hb0
    clear hB hB0 hb0 hz0 hs0 K0 h ih hk0 h0
    go_enter Try.func22, Try.ntmps22
    go_wp2_with fail
    refine K1.out.mono ?_
    rintro e w1 ⟨rfl, hI1, hb1⟩
    have HF := hid (⟨hI1, HB0.out.trans hb1⟩ : _ ∧ _)
    clear hI1 hb1 K1
    go_wp2_with fail
    go_end0
    exact ⟨rfl, HF.out⟩

set_option maxRecDepth 100000 in
set_option maxHeartbeats 1000000 in
theorem show_star (s : X3.RX) (ih : ShowC s) : ShowC (.star s) := by
  intro w v B b acc hR hB hlen hBw
  rw [X3.showX_star] at *
  have hl1 : acc.length + (X3.showX s).length ≤ 80000000 := by simp only [List.length_append] at hlen; omega
  have IH := hid ih
  clear ih
  obtain ⟨k, x, y, z, u, o, n, c, rfl⟩ := hR.shape
  have HR := hid hR
  generalize hv : nodeV k x y z u (.slice o n c) = v at hR
  cases hR with
  | star _ g cap h hc hg hw =>
    obtain ⟨rfl, rfl, rfl, rfl, rfl, q⟩ := nodeV_inj hv
    clear hv
    injection q with q1 q2 q3
    subst q1 q2 q3
    obtain ⟨w0, e0, hB0, hb0, hk0, hs0, hz0⟩ := show_box hB hBw 4 0 0 0 0 (some ⟨g, 0, none⟩) 1 c
    obtain ⟨n0, n1, n2, n3, n4, n5⟩ := cells6 hz0
    obtain ⟨vk, hRk, hK⟩ := kid_any (HR.out.kept hk0)
    have K1 := hid hK
    have HRK := hid hRk
    have HB0 := hid hb0
    have HBL := hid hB0
    clear hB hB0 hb0 hz0 h hk0 hK hRk HR
    go_enter Try.func22, Try.ntmps22
    go_wp2_with fail
    refine K1.out.mono ?_
    rintro e w1 ⟨rfl, hb1⟩
    have hs1 := hb1.size
    have K2 := hid (IH.out w1 vk B b acc (HRK.out.kept (keepS_below hb1)) (bldT_below HBL.out hb1) hl1 (by omega))
    have HB1 := hid (HB0.out.trans (hb1.mono (by omega)))
    clear hb1 K1 HRK HBL HB0
    go_wp2_with fail
    refine K2.out.mono ?_
    rintro e w2 ⟨rfl, hI2, hb2⟩
    have hs2 := hb2.size
    have K3 := hid (put_b B b _ 42 w2 hI2 (by simp only [List.length_append]; omega) (by omega))
    have HB2 := hid (HB1.out.trans hb2)
    clear hI2 hb2 K2 HB1
    go_wp2_with fail
    refine K3.out.mono ?_
    rintro e w3 ⟨rfl, hI3, hb3, _⟩
    have HF := hid (⟨by rw [← List.append_assoc]; exact hI3, HB2.out.trans hb3⟩ : BldT B b (acc ++ (X3.showX s ++ [42])) w3 ∧ Below B w w3)
    clear hI3 hb3 K3
    go_wp2_with fail
    go_end0
    exact ⟨rfl, HF.out⟩

theorem show_any : ∀ (n : Nat) (r : X3.RX), r.size ≤ n → r.size < 9223372036854775808 → ShowC r := by
  intro n
  induction n with
  | zero => intro r h; have := size_pos r; omega
  | succ n ih =>
    intro r h h2
    cases r with
    | empty => exact show_empty
    | bytes a b c d => exact show_bytes a b c d
    | cat l =>
      have := length_le_sizeL l
      simp only [X3.RX.size] at h h2
      exact show_cat l (by omega) fun k hk => ih _ (by have := size_in l k hk; omega) (by have := size_in l k hk; omega)
    | alt l =>
      have := length_le_sizeL l
      simp only [X3.RX.size] at h h2
      exact show_alt l (by omega) fun k hk => ih _ (by have := size_in l k hk; omega) (by have := size_in l k hk; omega)
    | star s =>
      simp only [X3.RX.size] at h h2
      exact show_star s (ih s (by omega) (by omega))

end Go.Proofs.Ytndefngkkikkeaa

/- regex.Show. -/
namespace Go.Proofs.X3
mutual
theorem show_len : ∀ r : RX, (showX r).length + 1 ≤ 1027 * r.size
  | .empty => by rw [showX_empty]; simp only [RX.size]; decide
  | .bytes a b c d => by rw [showX_bytes]; have := bytesX_len (.bytes a b c d); simp only [RX.size]; omega
  | .cat l => by rw [showX_cat]; have := seq_len [] (by simp) l 0; simp only [RX.size, List.length_cons, List.length_append, List.length_nil]; omega
  | .alt l => by rw [showX_alt]; have := seq_len [124] (by simp) l 0; simp only [RX.size, List.length_cons, List.length_append, List.length_nil]; omega
  | .star r => by rw [showX_star]; have := show_len r; simp only [RX.size, List.length_append, List.length_cons, List.length_nil]; omega
theorem seq_len (sep : List UInt8) (hs : sep.length ≤ 1) : ∀ (l : List RX) (k : Nat), (seqX sep k l).length ≤ 1027 * sizeL l
  | [], k => by rw [seqX]; simp
  | r :: l, k => by
    rw [seqX]
    have := show_len r
    have := seq_len sep hs l (k + 1)
    simp only [sizeL, List.length_append]
    split
    · simp only [List.length_nil]; omega
    · omega
end
end Go.Proofs.X3
namespace Go.Proofs.Ytndefngkkikkeaa
open Go Go.RowKit Go.Lib
set_option linter.unusedVariables false
set_option linter.unusedSimpArgs false

theorem owns_monoF {w : World} {B B' : Nat} {e : TypeId} {sz : Nat} {v : Value} {n : Nat} {xs : List Value} (h : w.ownsRowF B e sz v n xs) (hB : B' ≤ B) : w.ownsRowF B' e sz v n xs := by
  refine ⟨h.1, h.2.imp id ?_⟩
  rintro ⟨g, cap, cur, fz, h1, h2, h3⟩
  exact ⟨g, cap, cur, fz, h1, Nat.le_trans hB h2, h3⟩

theorem fresh_bld (B : Nat) (w : World) (hB : B ≤ w.heap.size) : BldT B w.heap.size [] (w.alloc (.cells #[.pointer none, .slice none 0 0] 53)) := by
  rcases Lib.IsBuilderF.of (Lib.fresh_isBuilder 53 5 w) with ⟨h1, v, h2, h3, h4⟩ | ⟨h1, v, h2, h3, h4⟩
  · exact .inl ⟨hB, v, h2, owns_monoF h3 hB, h4⟩
  · exact .inr ⟨hB, v, h2, owns_monoF h3 hB, h4⟩

set_option maxRecDepth 100000 in
set_option maxHeartbeats 1000000 in
theorem Show_any {S : Nat → Prop} {w : World} {r : X3.RX} {v : Value} (hR0 : RepS S w r v) (hsz : r.size ≤ 70000) :
    Calls Try.prog 13 #[v] w fun e w' => e = .returned (.string (bs (X3.showX r))) ∧ Below w.heap.size w w' := by
  have hR : RepS (fun g => g < w.heap.size) w r v := hR0.monoS (fun g _ hg => hg)
  have hlen := X3.show_len r
  clear hR0
  obtain ⟨k, x, y, z, u, o, n, c, rfl⟩ := hR.shape
  obtain ⟨w1, e1, _, hb1, hk1, hs1, hz1⟩ : ∃ w1, w.alloc (.cells #[.int .i64 k, .int .u64 x, .int .u64 y, .int .u64 z, .int .u64 u, .slice o n c] 28) = w1 ∧ True ∧ Below w.heap.size w w1 ∧ KeepS (fun g => g < w.heap.size) w w1 ∧ w1.heap.size = w.heap.size + 1 ∧
      w1.heap[w.heap.size]? = some (.cells #[.int .i64 k, .int .u64 x, .int .u64 y, .int .u64 z, .int .u64 u, .slice o n c] 28 (0, 0)) := by
    have hb0 : Below w.heap.size w (w.alloc (.cells #[.int .i64 k, .int .u64 x, .int .u64 y, .int .u64 z, .int .u64 u, .slice o n c] 28)) := (Below.refl _ _).alloc (Nat.le_refl _) _
    exact ⟨_, rfl, trivial, hb0, keepS_below hb0, by simp, new_block _ _⟩
  obtain ⟨w2, e2⟩ : ∃ w2, w1.alloc (.cells #[.pointer none, .slice none 0 0] 53) = w2 := ⟨_, rfl⟩
  have hI2 : BldT w.heap.size w1.heap.size [] w2 := by rw [← e2]; exact fresh_bld _ _ (by omega)
  have hb2 : Below w1.heap.size w1 w2 := by rw [← e2]; exact (Below.refl _ _).alloc (Nat.le_refl _) _
  have hs2 : w2.heap.size = w1.heap.size + 1 := by rw [← e2]; simp
  have hB2 : Below w.heap.size w w2 := hb1.trans (hb2.mono (by omega))
  have hz2 := (hb2.block w.heap.size (by omega)).trans hz1
  obtain ⟨n0, n1, n2, n3, n4, n5⟩ := cells6 hz2
  have K1 := hid (show_any _ r (Nat.le_refl _) (by omega) w2 _ w.heap.size w1.heap.size [] ((hR.kept hk1).kept (keepS_below hb2)) hI2 (by simp only [List.length_nil]; omega) (by omega))
  simp only [List.nil_append] at K1
  generalize X3.showX r = Z at *
  have HB2 := hid hB2
  have HS1 := hid hs1
  have HS2 := hid hs2
  clear hR hz1 hz2 hb2 hB2 hI2 hb1 hk1 hs1 hs2
  go_enter Try.func13, Try.ntmps13
  go_wp2_with fail
  refine K1.out.mono ?_
  rintro e w3 ⟨rfl, hI3, hb3⟩
  have hs3 := hb3.size
  have K2 := hid (take_t w.heap.size _ Z w3 hI3 (by have := HS1.out; have := HS2.out; omega))
  have HB3 := hid (HB2.out.trans hb3)
  clear hI3 hb3 hs3 K1
  go_wp2_with fail
  refine K2.out.mono ?_
  rintro e w4 ⟨rfl, hb4, _⟩
  have HB4 := hid (HB3.out.trans hb4)
  clear hb4 K2
  go_wp2_with fail
  go_ret
  exact ⟨rfl, HB4.out⟩

end Go.Proofs.Ytndefngkkikkeaa
