/- nfa's machine: Run. -/
import Derived.Test.YtochckefnjobhaaDoorQf
namespace Go.Proofs.YtochckefnjobhaaDoor
open Go Go.RowKit Go.Lib
open X3 (RX Pl)
set_option linter.unusedVariables false
set_option linter.unusedSimpArgs false

/-- Where a machine is. -/
abbrev AtN (l : List RX) (s : List UInt8) (A : List Nat) : Prop := X4.At (X4.mk l 0 [] []).2.1 (X4.mk l 0 [] []).2.2 (X4.mk l 0 [] []).1 s A

theorem step_at {l : List RX} {B m : Nat} {w : World} {T : Nat → Nat} {pv : Value} {AS : List Value} {bv : Value} {A0 : List Nat} (h : Nfa l B m w T pv AS bv A0) {s : List UInt8} {A : List Nat} (hA : AtN l s A) {Bv : Nat} {v : Value} (hr : w.ownsRow Bv 3 1 v A.length (ints A)) (x : UInt8) :
    Calls Tryd.prog 28 #[.pointer (some ⟨m, 0, none⟩), v, .int .u8 (x.toNat : Int)] w fun e w' => ∃ rv A', e = .returned rv ∧ AtN l (s ++ [x]) A' ∧ w'.ownsRow w.heap.size 3 1 rv A'.length (ints A') ∧ (A' = [] → rv = .slice none 0 0) ∧ Below w.heap.size w w' := by
  have hln := At.len hA h.mw.tl
  have hlm := len_mu (X4.mk l 0 [] []).2.1
  have hmu := h.mu
  refine (step_any h.mach h.mw (Bv := Bv) (v := v) (l := A.map fun (q : Nat) => (q : Int)) (by rw [List.length_map, ← ints_zs]; exact hr) (by rw [List.length_map]; omega) x.toNat x.toNat_lt).mono ?_
  rintro e w' ⟨rv, A', rfl, hC, hr', hn, hb⟩
  refine ⟨rv, A', rfl, hA.step (Closed.congr hC fun n => ?_), hr', hn, hb⟩
  constructor
  · rintro ⟨p, pl, hp, h1⟩
    rw [List.mem_map] at hp
    obtain ⟨q, hq, e⟩ := hp
    obtain rfl : q = p := by omega
    exact ⟨q, pl, hq, h1⟩
  · rintro ⟨p, pl, hp, h1⟩
    exact ⟨p, pl, List.mem_map.2 ⟨p, hp, rfl⟩, h1⟩

/-- The set that a machine tells. -/
def RunR (l : List RX) (s : List UInt8) (R : Nat) : Prop := R < 18446744073709551616 ∧ ∀ i, R.testBit i = true ↔ ∃ r, l[i]? = some r ∧ X3.Mt r s
theorem RunR.ext {l : List RX} {s : List UInt8} {R R' : Nat} (h : RunR l s R) (k : RunR l s R') : R = R' := Nat.eq_of_testBit_eq fun i => by
  rw [Bool.eq_iff_iff, h.2, k.2]

theorem tags_at {l : List RX} {B m : Nat} {w : World} {T : Nat → Nat} {pv : Value} {AS : List Value} {bv : Value} {A0 : List Nat} (h : Nfa l B m w T pv AS bv A0) {s : List UInt8} {A : List Nat} (hA : AtN l s A) {Bv : Nat} {v : Value} (hr : w.ownsRow Bv 3 1 v A.length (ints A)) :
    Calls Tryd.prog 29 #[.pointer (some ⟨m, 0, none⟩), v] w fun e w' => ∃ R : Nat, e = .returned (.int .u64 (R : Int)) ∧ RunR l s R ∧ w' = w := by
  have hln := At.len hA h.mw.tl
  have hlm := len_mu (X4.mk l 0 [] []).2.1
  have hmu := h.mu
  refine (tags_any h.mach h.mw.tb (Bv := Bv) (v := v) (l := A.map fun (q : Nat) => (q : Int)) (by rw [List.length_map, ← ints_zs]; exact hr) (by rw [List.length_map]; omega)).mono ?_
  rintro e w' ⟨rfl, rfl⟩
  refine ⟨_, rfl, ⟨tagsZ_lt h.mw.tb _ _, fun i => ?_⟩, rfl⟩
  rw [tags_eq h.mw (At.lt hA h.mw.tl)]
  exact X4.run_tags hA i

theorem ll_next {s : ByteArray} {k : Nat} (hk : k < s.size) : (LL s).take (k + 1) = (LL s).take k ++ [s[k]'hk] := by
  rw [List.take_add_one, ll_at hk]; rfl

end Go.Proofs.YtochckefnjobhaaDoor
