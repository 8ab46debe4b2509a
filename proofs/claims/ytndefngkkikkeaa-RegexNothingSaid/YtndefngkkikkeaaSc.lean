/- regex.Show. -/
import Derived.Test.YtndefngkkikkeaaSb
namespace Go.Proofs.Ytndefngkkikkeaa
open Go Go.RowKit Go.Lib
set_option linter.unusedVariables false
set_option linter.unusedSimpArgs false

theorem keepS_lt {B : Nat} {w w' : World} (h : Below B w w') : KeepS (fun g => g < B) w w' := ⟨h.size, fun g hg _ => h.block g hg⟩

/-- What show promises of a regex. -/
def ShowC (r : X3.RX) : Prop := ∀ (w : World) (v : Value) (B b : Nat) (acc : List UInt8), RepS (fun g => g < B) w r v → BldT B b acc w → acc.length + (X3.showX r).length ≤ 80000000 → B ≤ w.heap.size →
    Calls Try.prog 22 #[.pointer (some ⟨b, 0, none⟩), v] w fun e w' => e = .returned (.tuple #[]) ∧ (BldT B b (acc ++ X3.showX r) w' ∧ Below B w w')

set_option maxRecDepth 100000 in
set_option maxHeartbeats 4000000 in
theorem showKids_any (w : World) (l : List X3.RX) (g cap B b : Nat) (acc : List UInt8) (sp : ByteArray) (hl : RepLS (fun g => g < B) w l g 0) (hg : g < B) (hw : g < w.heap.size) (hcap : l.length ≤ cap) (hll : l.length < 9223372036854775808) (hsp : sp.size ≤ 1000)
    (hB : BldT B b acc w) (hlen : acc.length + (X3.seqX sp.data.toList 0 l).length + 2 ≤ 80000000) (hBw : B ≤ w.heap.size) (ih : ∀ (k : Nat) (hk : k < l.length), ShowC l[k]) :
    Calls Try.prog 35 #[.pointer (some ⟨b, 0, none⟩), .slice (some ⟨g, 0, none⟩) l.length cap, .string sp] w fun e w' => e = .returned (.tuple #[]) ∧ (BldT B b (acc ++ 40 :: (X3.seqX sp.data.toList 0 l ++ [41])) w' ∧ Below B w w') := by
  have IH := hid ih
  have HL := hid hl
  obtain ⟨R, hR⟩ : ∃ R, R = acc ++ [40] ++ X3.seqX sp.data.toList 0 l := ⟨_, rfl⟩
  have hRl : R.length + 1 ≤ 80000000 := by rw [hR]; simp; omega
  have hfin : acc ++ 40 :: (X3.seqX sp.data.toList 0 l ++ [41]) = R ++ [41] := by rw [hR]; simp
  rw [hfin]
  have K1 := hid (put_b B b acc 40 w hB (by omega) hBw)
  have HR := hid hR
  clear ih hl hR hfin hB
  go_enter Try.func35, Try.ntmps35
  go_wp2_with fail
  refine K1.out.mono ?_
  rintro e w1 ⟨rfl, hI1, hb1, _⟩
  have HI1 := hid hI1
  have HB1 := hid hb1
  clear hI1 hb1 K1
  go_wp2_with fail
  go_loopg [12] l.length (fun gk t12 wr => ∃ (k : Nat) (ac : List UInt8), Aside (k ≤ l.length ∧ gk = l.length - k ∧ t12 = .int .i64 (k : Int) ∧ BldT B b ac wr ∧ Below B w wr ∧ R = ac ++ X3.seqX sp.data.toList k (l.drop k)))
  case atStart => exact ⟨0, acc ++ [40], Nat.zero_le _, rfl, rfl, HI1.out, HB1.out, HR.out⟩
  case round =>
    clear HI1 HB1 HR
    obtain ⟨k, ac, hst⟩ := hrel
    obtain ⟨hk, hgk, e12, hI, hbl, hd⟩ := hst.out
    subst e12
    clear hst
    have hbs := hbl.size
    have hacl : ac.length ≤ R.length := by rw [hd]; simp
    by_cases hlt : k < l.length
    · obtain ⟨kd, x, y, z, u, kv, hRk, c0, c1, c2, c3, c4, c5⟩ := RepLS.at_ (HL.out.kept (keepS_lt hbl) hg hw) k hlt
      rw [Nat.zero_add] at c0 c1 c2 c3 c4 c5
      obtain ⟨ko, kn, kc, rfl⟩ := hRk.slice
      have h1 : (k : Int) < (l.length : Int) := by omega
      have h0 : (0 : Int) ≤ (k : Int) := by omega
      have a0 : (0 : Int) ≤ (k : Int) + 1 := by omega
      have a1 : (k : Int) + 1 < 9223372036854775808 := by omega
      rw [X3.seqX_drop _ l k hlt] at hd
      obtain ⟨wa, ea⟩ : ∃ wa, wr.alloc (.cells zero6 28) = wa := ⟨_, rfl⟩
      have hba : Below wr.heap.size wr wa := by rw [← ea]; exact (Below.refl _ _).alloc (Nat.le_refl _) _
      have hza : wa.heap[wr.heap.size]? = some (.cells zero6 28 (0, 0)) := by rw [← ea]; exact new_block _ _
      have hsa : wa.heap.size = wr.heap.size + 1 := by rw [← ea]; simp
      unfold zero6 at ea hza
      obtain ⟨n0, n1, n2, n3, n4, n5⟩ := cells6 hza
      obtain ⟨f0, f1, f2, f3, f4, f5⟩ := frozen6 hza
      obtain ⟨w8, e8, hz8, hg8, hs8⟩ := six hza (.int .i64 kd) (.int .u64 x) (.int .u64 y) (.int .u64 z) (.int .u64 u) (.slice ko kn kc)
      have hb8 : Below wr.heap.size wr w8 := below_fresh hba (by omega) (Nat.le_refl _) hg8
      have hblt := bldT_lt hI
      have hI8 := bldT_below hI hb8
      have hbl8 : Below B w w8 := hbl.trans (hb8.mono (by omega))
      have HRK := hid (hRk.kept (keepS_below hb8))
      have HZ8 := hid hz8
      have HBL8 := hid hbl8
      have HI8 := hid hI8
      have HD := hid hd
      have hs8' : wr.heap.size + 1 = w8.heap.size := by omega
      have HS8 := hid hs8'
      clear hRk hza hba hg8 hz8 hb8 hI8 hbl8 hI hbl hd hs8' hs8
      by_cases hk0 : k = 0
      · have t0 : ¬ 0 < k := by omega
        have HACC : R = ac ++ (X3.showX l[k] ++ X3.seqX sp.data.toList (k + 1) (l.drop (k + 1))) := by rw [HD.out, if_pos hk0]; simp
        have hlen3 : ac.length + (X3.showX l[k]).length ≤ 80000000 := by have := congrArg List.length HACC; simp only [List.length_append] at this; omega
        have KS := hid (IH.out k hlt w8 _ B b _ HRK.out HI8.out hlen3 (by have := HBL8.out.size; omega))
        have HA := hid HACC
        clear HACC hk0
        obtain ⟨y0, y1, y2, y3, y4, y5⟩ := cells6 HZ8.out
        go_wp2_with fail
        refine KS.out.mono ?_
        rintro e w5 ⟨rfl, hI5, hb5⟩
        have HN5 := hid (⟨hI5, HBL8.out.trans hb5, by rw [HA.out]; simp⟩ : BldT B b (ac ++ X3.showX l[k]) w5 ∧ Below B w w5 ∧ R = ac ++ X3.showX l[k] ++ X3.seqX sp.data.toList (k + 1) (l.drop (k + 1)))
        clear hI5 hb5 KS HA
        go_wp2_with fail
        go_roundg (l.length - (k + 1))
        case measure => omega
        case rel => exact ⟨k + 1, ac ++ X3.showX l[k], by omega, rfl, rfl, HN5.out⟩
      · have t0 : 0 < k := by omega
        have HACC : R = (ac ++ sp.data.toList) ++ (X3.showX l[k] ++ X3.seqX sp.data.toList (k + 1) (l.drop (k + 1))) := by rw [HD.out, if_neg hk0]; simp
        have hlen3 : (ac ++ sp.data.toList).length + (X3.showX l[k]).length ≤ 80000000 := by have := congrArg List.length HACC; simp only [List.length_append] at this ⊢; omega
        have K2 := hid (put_t B b ac sp w8 HI8.out (by omega) (by omega) (by have := HBL8.out.size; omega))
        have HA := hid HACC
        clear HACC hk0
        go_wp2_with fail
        refine K2.out.mono ?_
        rintro e w9 ⟨rfl, hI9, hb9, hk9⟩
        have hz9 := kept_box hk9 HZ8.out (by omega) (by intro cs fz h; cases h)
        have hbl9 := HBL8.out.trans hb9
        have KS := hid (IH.out k hlt w9 _ B b _ (HRK.out.kept (keepS_lt hb9)) hI9 hlen3 (by have := hbl9.size; omega))
        obtain ⟨y0, y1, y2, y3, y4, y5⟩ := cells6 hz9
        have HBL9 := hid hbl9
        clear hI9 hb9 hk9 hz9 hbl9 K2
        go_wp2_with fail
        refine KS.out.mono ?_
        rintro e w5 ⟨rfl, hI5, hb5⟩
        have HN5 := hid (⟨hI5, HBL9.out.trans hb5, by rw [HA.out]; simp⟩ : BldT B b (ac ++ sp.data.toList ++ X3.showX l[k]) w5 ∧ Below B w w5 ∧ R = ac ++ sp.data.toList ++ X3.showX l[k] ++ X3.seqX sp.data.toList (k + 1) (l.drop (k + 1)))
        clear hI5 hb5 KS HA
        go_wp2_with fail
        go_roundg (l.length - (k + 1))
        case measure => omega
        case rel => exact ⟨k + 1, ac ++ sp.data.toList ++ X3.showX l[k], by omega, rfl, rfl, HN5.out⟩
    · have h1 : ¬ (k : Int) < (l.length : Int) := by omega
      obtain rfl : k = l.length := by omega
      rw [List.drop_length, X3.seqX, List.append_nil] at hd
      subst hd
      have K6 := hid (put_b B b R 41 wr hI (by omega) (by omega))
      have HBL := hid hbl
      clear hI hbl
      go_wp2_with fail
      refine K6.out.mono ?_
      rintro e w3 ⟨rfl, hI3, hb3, hk3⟩
      have HF := hid hI3
      have HB3 := hid (HBL.out.trans hb3)
      clear hI3 hb3 hk3 K6
      go_wp2_with fail
      go_end0
      exact ⟨rfl, HF.out, HB3.out⟩

end Go.Proofs.Ytndefngkkikkeaa
