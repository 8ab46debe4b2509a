/- nfa's machine: Run. -/
import Derived.Test.YtochckefnjobhaaQf
namespace Go.Proofs.Ytochckefnjobhaa
open Go Go.RowKit Go.Lib
open X3 (RX Pl)
set_option linter.unusedVariables false
set_option linter.unusedSimpArgs false

/-- Where a machine is. -/
abbrev AtN (l : List RX) (s : List UInt8) (A : List Nat) : Prop := X4.At (X4.mk l 0 [] []).2.1 (X4.mk l 0 [] []).2.2 (X4.mk l 0 [] []).1 s A

theorem step_at {l : List RX} {B m : Nat} {w : World} {T : Nat → Nat} {pv : Value} {AS : List Value} {bv : Value} {A0 : List Nat} (h : Nfa l B m w T pv AS bv A0) {s : List UInt8} {A : List Nat} (hA : AtN l s A) {Bv : Nat} {v : Value} (hr : w.ownsRow Bv 3 1 v A.length (ints A)) (x : UInt8) :
    Calls Try.prog 19 #[.pointer (some ⟨m, 0, none⟩), v, .int .u8 (x.toNat : Int)] w fun e w' => ∃ rv A', e = .returned rv ∧ AtN l (s ++ [x]) A' ∧ w'.ownsRow w.heap.size 3 1 rv A'.length (ints A') ∧ (A' = [] → rv = .slice none 0 0) ∧ Below w.heap.size w w' := by
  have hln := At.len hA h.mw.tl
  have hlm := len_mu (X4.mk l 0 [] []).2.1
  have hmu := h.mu
  refine (step_any h.mach h.mw (Bv := Bv) (v := v) (l := A.map fun (q : Nat) => (q : Int)) (by rw [List.length_map, ← ints_zs]; exact hr) (by rw [List.length_map]; omega) x.toNat x.toNat_lt).mono ?_
  rintro e w' ⟨rv, A', rfl, hC, hr', hn, hb⟩
  refine ⟨rv, A', rfl, hA.step (Closed.congr hC fun n => ?_), hr', hn, hb⟩
  constructor
  · rintro ⟨p, pl, hp, h1⟩
    rw [List.mem_map] at hp
    obtain ⟨q, hq, e⟩ := hp
    obtain rfl : q = p := by omega
    exact ⟨q, pl, hq, h1⟩
  · rintro ⟨p, pl, hp, h1⟩
    exact ⟨p, pl, List.mem_map.2 ⟨p, hp, rfl⟩, h1⟩

/-- The set that a machine tells. -/
def RunR (l : List RX) (s : List UInt8) (R : Nat) : Prop := R < 18446744073709551616 ∧ ∀ i, R.testBit i = true ↔ ∃ r, l[i]? = some r ∧ X3.Mt r s
theorem RunR.ext {l : List RX} {s : List UInt8} {R R' : Nat} (h : RunR l s R) (k : RunR l s R') : R = R' := Nat.eq_of_testBit_eq fun i => by
  rw [Bool.eq_iff_iff, h.2, k.2]

theorem tags_at {l : List RX} {B m : Nat} {w : World} {T : Nat → Nat} {pv : Value} {AS : List Value} {bv : Value} {A0 : List Nat} (h : Nfa l B m w T pv AS bv A0) {s : List UInt8} {A : List Nat} (hA : AtN l s A) {Bv : Nat} {v : Value} (hr : w.ownsRow Bv 3 1 v A.length (ints A)) :
    Calls Try.prog 17 #[.pointer (some ⟨m, 0, none⟩), v] w fun e w' => ∃ R : Nat, e = .returned (.int .u64 (R : Int)) ∧ RunR l s R ∧ w' = w := by
  have hln := At.len hA h.mw.tl
  have hlm := len_mu (X4.mk l 0 [] []).2.1
  have hmu := h.mu
  refine (tags_any h.mach h.mw.tb (Bv := Bv) (v := v) (l := A.map fun (q : Nat) => (q : Int)) (by rw [List.length_map, ← ints_zs]; exact hr) (by rw [List.length_map]; omega)).mono ?_
  rintro e w' ⟨rfl, rfl⟩
  refine ⟨_, rfl, ⟨tagsZ_lt h.mw.tb _ _, fun i => ?_⟩, rfl⟩
  rw [tags_eq h.mw (At.lt hA h.mw.tl)]
  exact X4.run_tags hA i

theorem ll_next {s : ByteArray} {k : Nat} (hk : k < s.size) : (LL s).take (k + 1) = (LL s).take k ++ [s[k]'hk] := by
  rw [List.take_add_one, ll_at hk]; rfl

set_option maxRecDepth 100000 in
set_option maxHeartbeats 1000000 in
theorem run_any {l : List RX} {B m : Nat} {w : World} {T : Nat → Nat} {pv : Value} {AS : List Value} {bv : Value} {A0 : List Nat} (h : Nfa l B m w T pv AS bv A0) (s : ByteArray) (hs : s.size < 9223372036854775808) :
    Calls Try.prog 18 #[.pointer (some ⟨m, 0, none⟩), .string s] w fun e w' => ∃ R : Nat, e = .returned (.int .u64 (R : Int)) ∧ RunR l (LL s) R ∧ Below w.heap.size w w' := by
  have cm : w.cell? ⟨m, 1, none⟩ = some bv := by rw [Lib.cell_of_heap h.mach.box]; rfl
  have H := hid h
  have HS := hid hs
  clear h
  go_enter Try.func18, Try.ntmps18
  go_wp2_with fail
  go_loopw [5, 13] (fun t5 t13 wr => ∃ (k : Nat) (A : List Nat), k ≤ s.size ∧ t13 = .int .i64 (k : Int) ∧ Hid (AtN l ((LL s).take k) A) ∧ Hid (wr.ownsRow B 3 1 t5 A.length (ints A)) ∧ Below w.heap.size w wr) (fun _ t13 _ => s.size - (RowKit.intOf t13).toNat)
  case atStart => exact ⟨0, A0, Nat.zero_le _, rfl, hid (by rw [List.take_zero]; exact H.out.at_), hid H.out.row, Below.refl _ _⟩
  case round =>
    obtain ⟨k, A, hk, rfl, HA, HR, hB⟩ := hrel
    have hN := H.out.below hB
    have hBw : B ≤ w.heap.size := Nat.le_of_lt (Nat.lt_of_le_of_lt H.out.mach.mB (Array.getElem?_eq_some_iff.1 H.out.mach.box).1)
    have HB := hid hB
    have hsz := hB.size
    by_cases hlt : k < s.size
    · have ks := hid (step_at hN HA.out HR.out (s[k]'hlt))
      have h1 : (k : Int) < (s.size : Int) := by omega
      have h2 : (0 : Int) ≤ (k : Int) := by omega
      clear hN hB
      go_wp2_with fail
      refine ks.out.mono ?_
      rintro e w2 ⟨rv, A', rfl, hA', hr', hn', hb'⟩
      have HA' := hid hA'
      have HR' := hid hr'
      have HB' := hid hb'
      clear hA' hr' hn' hb'
      go_wp2_with fail
      refine ⟨⟨k + 1, A', by omega, rfl, hid (by rw [ll_next hlt]; exact HA'.out), hid ⟨HR'.out.1, HR'.out.2.imp id (fun ⟨g, cap, cur, h1, h2, h3⟩ => ⟨g, cap, cur, h1, by omega, h3⟩)⟩, HB.out.trans (HB'.out.mono hsz)⟩, ?_⟩
      show s.size - ((k : Int) + 1).toNat < s.size - ((k : Int)).toNat
      omega
    · have h1 : ¬ (k : Int) < (s.size : Int) := by omega
      obtain rfl : k = s.size := by omega
      have htk : (LL s).take s.size = LL s := List.take_of_length_le (by rw [Array.length_toList]; exact Nat.le_refl _)
      rw [htk] at HA
      have kt := hid (tags_at hN HA.out HR.out)
      clear hN hB htk
      go_wp2_with fail
      refine kt.out.mono ?_
      rintro e w2 ⟨R, rfl, hR, rfl⟩
      have HRR := hid hR
      clear hR
      go_wp2_with fail
      go_ret
      exact ⟨R, rfl, HRR.out, HB.out⟩
end Go.Proofs.Ytochckefnjobhaa
