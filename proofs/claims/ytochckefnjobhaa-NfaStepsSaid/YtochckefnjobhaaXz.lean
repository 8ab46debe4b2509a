/- States that come twice, and numbers that are none; whole numbers that are handed in. -/
import Derived.Test.YtochckefnjobhaaQl
import Derived.Test.YtochckefnjobhaaWt
namespace Go.Proofs.Ytochckefnjobhaa
open Go Go.RowKit Go.Lib Go.WideShapes Go.ChangeShapes
open X3 (RX Pl)
set_option linter.unusedVariables false

theorem tags_fold (T : Nat → Nat) (n : Nat) : ∀ (l : List Int) (s i : Nat), (l.foldl (fun s z => if hasZ n z then s ||| T z.toNat else s) s).testBit i = (s.testBit i || l.any fun z => hasZ n z && (T z.toNat).testBit i)
  | [], s, i => by simp
  | z :: l, s, i => by
    rw [List.foldl_cons, tags_fold T n l, List.any_cons]
    cases h : hasZ n z with
    | false => simp
    | true => simp [Nat.testBit_or, Bool.or_assoc]
theorem tags_far (T : Nat → Nat) (n : Nat) (A O : List Int) (hO : ∀ z ∈ O, hasZ n z = false) : tagsZ T n (A ++ O ++ A) = tagsZ T n A := by
  refine Nat.eq_of_testBit_eq fun i => ?_
  unfold tagsZ
  rw [tags_fold, tags_fold, List.any_append, List.any_append]
  have h0 : (O.any fun z => hasZ n z && (T z.toNat).testBit i) = false := by
    rw [List.any_eq_false]
    intro z hz
    rw [hO z hz]
    simp
  rw [h0]
  cases (A.any fun z => hasZ n z && (T z.toNat).testBit i) <;> simp
/-- Numbers that no state has. -/
def oddZ (z : Int) : Bool := decide (z < 0) || decide (1073741824 < z)
theorem odd_none {z : Int} (h : oddZ z = true) {n : Nat} (hn : n ≤ 1000000) : hasZ n z = false := by
  unfold oddZ at h
  unfold hasZ
  simp at h ⊢
  omega
theorem odd_take {l : List Int} {k : Nat} (hk : k < l.length) : (l.take (k + 1)).filter oddZ = (l.take k).filter oddZ ++ if oddZ l[k] then [l[k]] else [] := by
  rw [List.take_add_one, List.getElem?_eq_getElem hk, List.filter_append]
  simp [List.filter_cons]
theorem far_step {P : List Pl} {TS : List Nat} {A : List Nat} {O : List Int} {b : Nat} {B C : List Nat} (hO : ∀ z ∈ O, hasZ P.length z = false)
    (h : X4.Closed P TS (fun n => ∃ (p : Nat) (pl : Pl), (p : Int) ∈ (A.map fun (q : Nat) => (q : Int)) ++ O ++ (A.map fun (q : Nat) => (q : Int)) ∧ P[p]? = some pl ∧ X3.hasX pl.b b = true ∧ pl.next = n) B)
    (k : X4.Closed P TS (fun n => ∃ (p : Nat) (pl : Pl), (p : Int) ∈ (A.map fun (q : Nat) => (q : Int)) ∧ P[p]? = some pl ∧ X3.hasX pl.b b = true ∧ pl.next = n) C) : B = C := by
  refine h.ext k fun n => ?_
  constructor
  · rintro ⟨p, pl, hp, h1, h2⟩
    refine ⟨p, pl, ?_, h1, h2⟩
    rcases List.mem_append.1 hp with h3 | h3
    · rcases List.mem_append.1 h3 with h4 | h4
      · exact h4
      · have h5 := hO _ h4
        have h6 := (List.getElem?_eq_some_iff.1 h1).1
        unfold hasZ at h5
        simp at h5
        omega
    · exact h3
  · rintro ⟨p, pl, hp, h1, h2⟩
    exact ⟨p, pl, List.mem_append_right _ hp, h1, h2⟩
theorem closed_none {P : List Pl} {TS B : List Nat} {S : Nat → Prop} (h : X4.Closed P TS S B) (hS : ∀ n, ¬ S n) : B = [] := by
  cases B with
  | nil => rfl
  | cons q B => obtain ⟨⟨p, hp, _⟩, _⟩ := (h.is q).1 (by simp); exact absurd hp (hS p)

/-- Whole numbers that are handed in. -/
structure NumsAt (w : World) (v : Value) (l : List Int) : Prop where
  sh : ∃ o c, v = .slice o l.length c ∧ ∀ j (hj : j < l.length), ∃ b off, o = some ⟨b, off, none⟩ ∧ b < w.heap.size ∧ w.cell? ⟨b, off + j, none⟩ = some (.int .i64 l[j])
  ln : l.length ≤ maxLen
theorem NumsAt.below {w w' : World} {v : Value} {l : List Int} (h : NumsAt w v l) (hb : Below w.heap.size w w') : NumsAt w' v l := by
  obtain ⟨o, c, e, hc⟩ := h.sh
  exact ⟨⟨o, c, e, fun j hj => by
    obtain ⟨b, off, e1, h1, h2⟩ := hc j hj
    exact ⟨b, off, e1, Nat.lt_of_lt_of_le h1 hb.size, (World.cell?_of_block (a := ⟨b, off + j, none⟩) (hb.block b h1)).trans h2⟩⟩, h.ln⟩
set_option maxRecDepth 100000 in
theorem open_nums {H : Type} {enc : TypeId × Value → H} {w : World} {base : Nat} {spare : Nat → Bool} {held : Bool} {r : Reach} {b0 : Nat} {v : Value} {d : DataW H} {ps : List MemPlace}
    (hval : Value.okWide Try.prog w r b0 39 v) (h : DataW.Trod enc Try.prog w base spare held 39 v d ps) : ∃ l, NumsAt w v l := by
  obtain ⟨a0, len, cap, rfl⟩ := okWide_slice Try.underlying39 hval
  obtain ⟨fuel, hf⟩ := h
  rcases open_ints Try.underlying39 Try.underlying3 (by kernel_rfl) hf with ⟨hv, _⟩ | ⟨a, len', cap', ss, hv, _, hlc, hcm, hln, _, hcell, hle⟩
  · have e : Value.slice a0 len cap = .slice none 0 0 := by simpa [Value.cells] using hv
    rw [e]
    exact ⟨[], ⟨⟨none, 0, rfl, fun j hj => absurd hj (by simp)⟩, by unfold maxLen; simp⟩⟩
  · have e : Value.slice a0 len cap = .slice (some a) len' cap' := by simpa [Value.cells] using hv
    rw [e]
    have hlen : len' ≤ ss.length := by rw [hln]; split <;> omega
    have hl : (ss.take len').length = len' := by simp; omega
    refine ⟨ss.take len', ⟨⟨some a, cap', by rw [hl], fun j hj => ?_⟩, by rw [hl]; omega⟩⟩
    rw [hl] at hj
    have hc := hcell j (by omega)
    obtain ⟨b, off, spot⟩ := a
    have hsp : spot = none := by
      have := World.cell?_spot (hcell 0 (by omega))
      simpa [Addr.add] using this
    subst hsp
    have e1 : (⟨b, off, none⟩ : Addr).add j = ⟨b, off + j, none⟩ := by
      by_cases h0 : j = 0
      · subst h0; simp [Addr.add]
      · simp [Addr.add, h0]
    rw [e1] at hc
    refine ⟨b, off, rfl, block_lt hc, ?_⟩
    rw [List.getElem_take]
    rw [hc, List.getD_eq_getElem?_getD, List.getElem?_eq_getElem (by omega)]
    rfl

/-- What a machine tells where it is. -/
theorem at_tags {l : List RX} {B m : Nat} {w : World} {T : Nat → Nat} {pv : Value} {AS : List Value} {bv : Value} {A0 : List Nat} (h : Nfa l B m w T pv AS bv A0) {s : List UInt8} {A : List Nat} (hA : AtN l s A) :
    RunR l s (tagsZ T (X4.mk l 0 [] []).2.1.length (A.map fun (q : Nat) => (q : Int))) := by
  refine ⟨tagsZ_lt h.mw.tb _ _, fun i => ?_⟩
  rw [tags_eq h.mw (At.lt hA h.mw.tl)]
  exact X4.run_tags hA i
theorem run_is {l : List RX} {B m : Nat} {w : World} {T : Nat → Nat} {pv : Value} {AS : List Value} {bv : Value} {A0 : List Nat} (h : Nfa l B m w T pv AS bv A0) (s : ByteArray) (hs : s.size < 9223372036854775808) {R : Nat} (hR : RunR l (LL s) R) :
    Calls Try.prog 18 #[.pointer (some ⟨m, 0, none⟩), .string s] w fun e w' => e = .returned (.int .u64 (R : Int)) ∧ Below w.heap.size w w' :=
  (run_any h s hs).mono fun _ _ ⟨R', he, hR', hb⟩ => by
    obtain rfl := hR.ext hR'
    exact ⟨he, hb⟩
theorem tags_is {l : List RX} {B m : Nat} {w : World} {T : Nat → Nat} {pv : Value} {AS : List Value} {bv : Value} {A0 : List Nat} (h : Nfa l B m w T pv AS bv A0) {s : List UInt8} {A : List Nat} (hA : AtN l s A) {Bv : Nat} {v : Value} (hr : w.ownsRow Bv 3 1 v A.length (ints A)) {R : Nat} (hR : RunR l s R) :
    Calls Try.prog 17 #[.pointer (some ⟨m, 0, none⟩), v] w fun e w' => e = .returned (.int .u64 (R : Int)) ∧ w' = w :=
  (tags_at h hA hr).mono fun _ _ ⟨R', he, hR', hb⟩ => by
    obtain rfl := hR.ext hR'
    exact ⟨he, hb⟩
theorem ll_extract {s : ByteArray} {k : Nat} (hk : k ≤ s.size) : LL (s.extract 0 k) = (LL s).take k := by
  simp [LL]
end Go.Proofs.Ytochckefnjobhaa
