/- regex.show. -/
import Derived.Test.YtndefngkkikkeaaSc
namespace Go.Proofs.X3
theorem showX_empty : showX .empty = [40, 41] := by rw [showX]
theorem showX_bytes (a b c d : Nat) : showX (.bytes a b c d) = bytesX (.bytes a b c d) := by rw [showX]
theorem showX_cat (l : List RX) : showX (.cat l) = 40 :: (seqX [] 0 l ++ [41]) := by rw [showX]
theorem showX_alt (l : List RX) : showX (.alt l) = 40 :: (seqX [124] 0 l ++ [41]) := by rw [showX]
theorem showX_star (r : RX) : showX (.star r) = showX r ++ [42] := by rw [showX]
end Go.Proofs.X3
namespace Go.Proofs.Ytndefngkkikkeaa
open Go Go.RowKit Go.Lib
set_option linter.unusedVariables false
set_option linter.unusedSimpArgs false

theorem nodeV_inj {k a b c d k' a' b' c' d' : Int} {kv kv' : Value} (h : nodeV k a b c d kv = nodeV k' a' b' c' d' kv') : k = k' ∧ a = a' ∧ b = b' ∧ c = c' ∧ d = d' ∧ kv = kv' := by
  simp only [nodeV, Value.agg.injEq, Array.mk.injEq, List.cons.injEq, Value.int.injEq, true_and, and_true] at h
  exact h

/-- A regex's box, at the head of show. -/
theorem show_box {B b : Nat} {acc : List UInt8} {w : World} (hB : BldT B b acc w) (hBw : B ≤ w.heap.size) (k x y z u : Int) (o : Option Addr) (n c : Nat) :
    ∃ w0, w.alloc (.cells #[.int .i64 k, .int .u64 x, .int .u64 y, .int .u64 z, .int .u64 u, .slice o n c] 28) = w0 ∧ BldT B b acc w0 ∧ Below B w w0 ∧ KeepS (fun g => g < B) w w0 ∧ w0.heap.size = w.heap.size + 1 ∧
      w0.heap[w.heap.size]? = some (.cells #[.int .i64 k, .int .u64 x, .int .u64 y, .int .u64 z, .int .u64 u, .slice o n c] 28 (0, 0)) := by
  have hb0 : Below w.heap.size w (w.alloc (.cells #[.int .i64 k, .int .u64 x, .int .u64 y, .int .u64 z, .int .u64 u, .slice o n c] 28)) := (Below.refl _ _).alloc (Nat.le_refl _) _
  exact ⟨_, rfl, bldT_below hB hb0, hb0.mono hBw, keepS_below hb0, by simp, new_block _ _⟩

set_option maxRecDepth 100000 in
set_option maxHeartbeats 1000000 in
theorem show_empty : ShowC .empty := by
  intro w v B b acc hR hB hlen hBw
  obtain ⟨k, x, y, z, u, o, n, c, rfl⟩ := hR.shape
  generalize hv : nodeV k x y z u (.slice o n c) = v at hR
  cases hR with
  | empty =>
    obtain ⟨rfl, rfl, rfl, rfl, rfl, q⟩ := nodeV_inj hv
    clear hv
    injection q with q1 q2 q3
    subst q1 q2 q3
    obtain ⟨w0, e0, hB0, hb0, _, hs0, hz0⟩ := show_box hB hBw 0 0 0 0 0 none 0 0
    rw [X3.showX_empty] at *
    obtain ⟨n0, n1, n2, n3, n4, n5⟩ := cells6 hz0
    have K1 := hid (put_t B b acc ⟨#[40, 41]⟩ w0 hB0 (by omega) (by decide) (by omega))
    have HB0 := hid hb0
    clear hB hB0 hb0 hz0 hs0
    go_enter Try.func22, Try.ntmps22
    go_wp2_with fail
    refine K1.out.mono ?_
    rintro e w1 ⟨rfl, hI1, hb1, _⟩
    have HF := hid (⟨hI1, HB0.out.trans hb1⟩ : _ ∧ _)
    clear hI1 hb1 K1
    go_wp2_with fail
    go_end0
    exact ⟨rfl, HF.out⟩

set_option maxRecDepth 100000 in
set_option maxHeartbeats 1000000 in
theorem show_bytes (p q r t : Nat) : ShowC (.bytes p q r t) := by
  intro w v B b acc hR hB hlen hBw
  rw [X3.showX_bytes] at *
  have K := hid (fun w hB hBw => showBytes_any hR B b acc w hB (by omega) hBw)
  generalize X3.bytesX (.bytes p q r t) = Z at *
  obtain ⟨k, x, y, z, u, o, n, c, rfl⟩ := hR.shape
  generalize hv : nodeV k x y z u (.slice o n c) = v at hR
  cases hR with
  | bytes _ _ _ _ h1 h2 h3 h4 =>
    obtain ⟨rfl, rfl, rfl, rfl, rfl, q⟩ := nodeV_inj hv
    clear hv
    injection q with q1 q2 q3
    subst q1 q2 q3
    obtain ⟨w0, e0, hB0, hb0, _, hs0, hz0⟩ := show_box hB hBw 1 p q r t none 0 0
    obtain ⟨n0, n1, n2, n3, n4, n5⟩ := cells6 hz0
    have K1 := hid (K.out w0 hB0 (by omega))
    have HB0 := hid hb0
    clear hB hB0 hb0 hz0 hs0 K
    go_enter Try.func22, Try.ntmps22
    go_wp2_with fail
    refine K1.out.mono ?_
    rintro e w1 ⟨rfl, hI1, hb1⟩
    have HF := hid (⟨hI1, HB0.out.trans hb1⟩ : _ ∧ _)
    clear hI1 hb1 K1
    go_wp2_with fail
    go_end0
    exact ⟨rfl, HF.out⟩

set_option maxRecDepth 100000 in
set_option maxHeartbeats 1000000 in
theorem show_cat (l : List X3.RX) (hl : l.length < 9223372036854775808) (ih : ∀ (k : Nat) (hk : k < l.length), ShowC l[k]) : ShowC (.cat l) := by
  intro w v B b acc hR hB hlen hBw
  rw [X3.showX_cat] at *
  obtain ⟨k, x, y, z, u, o, n, c, rfl⟩ := hR.shape
  generalize hv : nodeV k x y z u (.slice o n c) = v at hR
  cases hR with
  | cat _ g cap h hc hg hw h0 =>
    obtain ⟨rfl, rfl, rfl, rfl, rfl, q⟩ := nodeV_inj hv
    clear hv
    injection q with q1 q2 q3
    subst q1 q2 q3
    obtain ⟨w0, e0, hB0, hb0, hk0, hs0, hz0⟩ := show_box hB hBw 2 0 0 0 0 (some ⟨g, 0, none⟩) l.length c
    obtain ⟨n0, n1, n2, n3, n4, n5⟩ := cells6 hz0
    have K0 := showKids_any w0 l g c B b acc ⟨#[]⟩ (h.kept hk0 hg hw) hg (by omega) hc hl (by decide) hB0 (by simp only [List.length_cons, List.length_append, List.length_nil] at hlen; show _ + (X3.seqX [] 0 l).length + 2 ≤ _; omega) (by omega) ih
    rw [show (ByteArray.mk #[]).data.toList = [] from rfl] at K0
    generalize X3.seqX [] 0 l = Z at *
    have K1 := hid K0
    have HB0 := hid hb0
    clear hB hB0 hb0 hz0 hs0 K0 h ih hk0
    go_enter Try.func22, Try.ntmps22
    go_wp2_with fail
    refine K1.out.mono ?_
    rintro e w1 ⟨rfl, hI1, hb1⟩
    have HF := hid (⟨hI1, HB0.out.trans hb1⟩ : _ ∧ _)
    clear hI1 hb1 K1
    go_wp2_with fail
    go_end0
    exact ⟨rfl, HF.out⟩

set_option maxRecDepth 100000 in
set_option maxHeartbeats 1000000 in
theorem show_alt (l : List X3.RX) (hl : l.length < 9223372036854775808) (ih : ∀ (k : Nat) (hk : k < l.length), ShowC l[k]) : ShowC (.alt l) := by
  intro w v B b acc hR hB hlen hBw
  rw [X3.showX_alt] at *
  obtain ⟨k, x, y, z, u, o, n, c, rfl⟩ := hR.shape
  generalize hv : nodeV k x y z u (.slice o n c) = v at hR
  cases hR with
  | alt _ g cap h hc hg hw h0 =>
    obtain ⟨rfl, rfl, rfl, rfl, rfl, q⟩ := nodeV_inj hv
    clear hv
    injection q with q1 q2 q3
    subst q1 q2 q3
    obtain ⟨w0, e0, hB0, hb0, hk0, hs0, hz0⟩ := show_box hB hBw 3 0 0 0 0 (some ⟨g, 0, none⟩) l.length c
    obtain ⟨n0, n1, n2, n3, n4, n5⟩ := cells6 hz0
    have K0 := showKids_any w0 l g c B b acc ⟨#[124]⟩ (h.kept hk0 hg hw) hg (by omega) hc hl (by decide) hB0 (by simp only [List.length_cons, List.length_append, List.length_nil] at hlen; show _ + (X3.seqX [124] 0 l).length + 2 ≤ _; omega) (by omega) ih
    rw [show (ByteArray.mk #[124]).data.toList = [124] from rfl] at K0
    generalize X3.seqX [124] 0 l = Z at *
    have hlp : 0 < l.length := List.length_pos_iff.2 h0
    have K1 := hid K0
    have HB0 := hid hb0
    clear hB hB0 hb0 hz0 hs0 K0 h ih hk0 h0
    go_enter Try.func22, Try.ntmps22
    go_wp2_with fail
    refine K1.out.mono ?_
    rintro e w1 ⟨rfl, hI1, hb1⟩
    have HF := hid (⟨hI1, HB0.out.trans hb1⟩ : _ ∧ _)
    clear hI1 hb1 K1
    go_wp2_with fail
    go_end0
    exact ⟨rfl, HF.out⟩

set_option maxRecDepth 100000 in
set_option maxHeartbeats 1000000 in
theorem show_star (s : X3.RX) (ih : ShowC s) : ShowC (.star s) := by
  intro w v B b acc hR hB hlen hBw
  rw [X3.showX_star] at *
  have hl1 : acc.length + (X3.showX s).length ≤ 80000000 := by simp only [List.length_append] at hlen; omega
  have IH := hid ih
  clear ih
  obtain ⟨k, x, y, z, u, o, n, c, rfl⟩ := hR.shape
  have HR := hid hR
  generalize hv : nodeV k x y z u (.slice o n c) = v at hR
  cases hR with
  | star _ g cap h hc hg hw =>
    obtain ⟨rfl, rfl, rfl, rfl, rfl, q⟩ := nodeV_inj hv
    clear hv
    injection q with q1 q2 q3
    subst q1 q2 q3
    obtain ⟨w0, e0, hB0, hb0, hk0, hs0, hz0⟩ := show_box hB hBw 4 0 0 0 0 (some ⟨g, 0, none⟩) 1 c
    obtain ⟨n0, n1, n2, n3, n4, n5⟩ := cells6 hz0
    obtain ⟨vk, hRk, hK⟩ := kid_any (HR.out.kept hk0)
    have K1 := hid hK
    have HRK := hid hRk
    have HB0 := hid hb0
    have HBL := hid hB0
    clear hB hB0 hb0 hz0 h hk0 hK hRk HR
    go_enter Try.func22, Try.ntmps22
    go_wp2_with fail
    refine K1.out.mono ?_
    rintro e w1 ⟨rfl, hb1⟩
    have hs1 := hb1.size
    have K2 := hid (IH.out w1 vk B b acc (HRK.out.kept (keepS_below hb1)) (bldT_below HBL.out hb1) hl1 (by omega))
    have HB1 := hid (HB0.out.trans (hb1.mono (by omega)))
    clear hb1 K1 HRK HBL HB0
    go_wp2_with fail
    refine K2.out.mono ?_
    rintro e w2 ⟨rfl, hI2, hb2⟩
    have hs2 := hb2.size
    have K3 := hid (put_b B b _ 42 w2 hI2 (by simp only [List.length_append]; omega) (by omega))
    have HB2 := hid (HB1.out.trans hb2)
    clear hI2 hb2 K2 HB1
    go_wp2_with fail
    refine K3.out.mono ?_
    rintro e w3 ⟨rfl, hI3, hb3, _⟩
    have HF := hid (⟨by rw [← List.append_assoc]; exact hI3, HB2.out.trans hb3⟩ : BldT B b (acc ++ (X3.showX s ++ [42])) w3 ∧ Below B w w3)
    clear hI3 hb3 K3
    go_wp2_with fail
    go_end0
    exact ⟨rfl, HF.out⟩

theorem show_any : ∀ (n : Nat) (r : X3.RX), r.size ≤ n → r.size < 9223372036854775808 → ShowC r := by
  intro n
  induction n with
  | zero => intro r h; have := size_pos r; omega
  | succ n ih =>
    intro r h h2
    cases r with
    | empty => exact show_empty
    | bytes a b c d => exact show_bytes a b c d
    | cat l =>
      have := length_le_sizeL l
      simp only [X3.RX.size] at h h2
      exact show_cat l (by omega) fun k hk => ih _ (by have := size_in l k hk; omega) (by have := size_in l k hk; omega)
    | alt l =>
      have := length_le_sizeL l
      simp only [X3.RX.size] at h h2
      exact show_alt l (by omega) fun k hk => ih _ (by have := size_in l k hk; omega) (by have := size_in l k hk; omega)
    | star s =>
      simp only [X3.RX.size] at h h2
      exact show_star s (ih s (by omega) (by omega))

end Go.Proofs.Ytndefngkkikkeaa
