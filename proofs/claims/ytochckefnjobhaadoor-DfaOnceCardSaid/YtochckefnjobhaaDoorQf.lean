/- nfa's machine: Begin, Run. -/
import Derived.Test.YtochckefnjobhaaDoorQe
import Derived.Test.YtochckefnjobhaaDoorRr
namespace Go.Proofs.YtochckefnjobhaaDoor
open Go Go.RowKit Go.Lib
open X3 (RX Pl)
set_option linter.unusedVariables false
set_option linter.unusedSimpArgs false

theorem clone_nil (n c : Nat) (w : World) : Calls Tryd.prog 48 #[.slice none n c] w fun e w' => e = .returned (.slice none 0 0) ∧ w' = w := Any.slices_Clone_int_nil Tryd.laysNm215 n c w

/-- A built machine of some regexes. -/
structure Nfa (l : List RX) (B m : Nat) (w : World) (T : Nat → Nat) (pv : Value) (AS : List Value) (bv : Value) (A0 : List Nat) : Prop where
  mach : Mach T B m w pv AS (X4.mk l 0 [] []).2.1 bv
  mw : MW T (X4.mk l 0 [] []).2.2 (X4.mk l 0 [] []).2.1
  row : w.ownsRow B 3 1 bv A0.length (ints A0)
  nil_ : A0 = [] → bv = .slice none 0 0
  at_ : X4.At (X4.mk l 0 [] []).2.1 (X4.mk l 0 [] []).2.2 (X4.mk l 0 [] []).1 [] A0
  mu : X3.muL (X4.mk l 0 [] []).2.1 ≤ 100000
theorem Nfa.below {l : List RX} {B m : Nat} {w w' : World} {T : Nat → Nat} {pv : Value} {AS : List Value} {bv : Value} {A0 : List Nat} (h : Nfa l B m w T pv AS bv A0) (hb : Below w.heap.size w w') : Nfa l B m w' T pv AS bv A0 :=
  ⟨h.mach.below hb, h.mw, owns_kept h.row fun g hg => hb.block g (owns_lt h.row g hg).2, h.nil_, h.at_, h.mu⟩

theorem At.lt {P : List Pl} {TS fs : List Nat} {s : List UInt8} {A : List Nat} (h : X4.At P TS fs s A) (hl : TS.length = P.length) : ∀ q ∈ A, q < P.length := fun q hq => by
  rcases ((h.2 q).1 hq).2 with ⟨pl, hp, _⟩ | ⟨t, ht, _⟩
  · exact (List.getElem?_eq_some_iff.1 hp).1
  · rw [← hl]; exact (List.getElem?_eq_some_iff.1 ht).1
theorem At.len {P : List Pl} {TS fs : List Nat} {s : List UInt8} {A : List Nat} (h : X4.At P TS fs s A) (hl : TS.length = P.length) : A.length ≤ P.length := by
  have hnd : A.Nodup := h.1.imp (fun {a b} hab => by omega)
  have hsub : A ⊆ List.range P.length := fun q hq => List.mem_range.2 (At.lt h hl q hq)
  have := hnd.length_le_of_subset hsub
  simpa using this
theorem tags_eq {T : Nat → Nat} {TS : List Nat} {P : List Pl} (hW : MW T TS P) {A : List Nat} (hA : ∀ q ∈ A, q < P.length) : tagsZ T P.length (A.map fun (q : Nat) => (q : Int)) = X4.tagsX TS A := by
  unfold tagsZ X4.tagsX
  rw [List.foldl_map]
  have key : ∀ (A : List Nat) (s : Nat), (∀ q ∈ A, q < P.length) → A.foldl (fun (s q : Nat) => if hasZ P.length (q : Int) then s ||| T (q : Int).toNat else s) s = A.foldl (fun n q => n ||| TS.getD q 0) s := by
    intro A
    induction A with
    | nil => intro s _; rfl
    | cons a A ih =>
      intro s h
      have ha := h a (by simp)
      simp only [List.foldl_cons]
      rw [if_pos (by simp [hasZ]; omega), Int.toNat_natCast, List.getD_eq_getElem?_getD, hW.ts a ha]
      exact ih _ (fun q hq => h q (by simp [hq]))
  exact key A 0 hA

/-- Where Begin is. -/
theorem begin_any {l : List RX} {B m : Nat} {w : World} {T : Nat → Nat} {pv : Value} {AS : List Value} {bv : Value} {A0 : List Nat} (h : Nfa l B m w T pv AS bv A0) :
    Calls Tryd.prog 26 #[.pointer (some ⟨m, 0, none⟩)] w fun e w' => ∃ rv, e = .returned rv ∧ w'.ownsRow B 3 1 rv A0.length (ints A0) ∧ (A0 = [] → rv = .slice none 0 0) ∧ Below w.heap.size w w' := by
  have hml := (Array.getElem?_eq_some_iff.1 h.mach.box).1
  have hmB := h.mach.mB
  have cm : w.cell? ⟨m, 1, none⟩ = some bv := by rw [Lib.cell_of_heap h.mach.box]; rfl
  have hrow := h.row
  rcases hrow.2 with ⟨rfl, h0⟩ | ⟨g, cap, cur, rfl, hBg, hg, hc, hcm, hs, ht⟩
  · have hA : A0 = [] := List.eq_nil_of_length_eq_zero h0
    subst hA
    have kc := hid (clone_nil 0 0 w)
    clear h hrow h0
    go_enter Tryd.func26, Tryd.ntmps26
    go_wp2_with fail
    refine kc.out.mono ?_
    rintro e w1 ⟨rfl, rfl⟩
    go_wp2_with fail
    go_ret
    exact ⟨_, rfl, ⟨rfl, .inl ⟨rfl, rfl⟩⟩, fun _ => rfl, Below.refl _ _⟩
  · have hAP := At.len h.at_ h.mw.tl
    have hlm := len_mu (X4.mk l 0 [] []).2.1
    have hmu := h.mu
    have kc := hid (clone_ints g 0 A0.length cap (A0.map fun (q : Nat) => (q : Int)) w (by simp) (by omega) (fun j hj => by
      have hj' : j < A0.length := by simpa using hj
      rw [Nat.zero_add, hrow.cellAt j (by omega)]
      simp [ints, List.getD_eq_getElem?_getD, hj']))
    have HN := hid h.nil_
    have hBw : B ≤ w.heap.size := by omega
    clear h hrow hg ht hs
    go_enter Tryd.func26, Tryd.ntmps26
    go_wp2_with fail
    refine kc.out.mono ?_
    rintro e w1 ⟨v', rfl, ho, hn, hb⟩
    have HO := hid ho
    have HB := hid hb
    clear ho hb
    go_wp2_with fail
    go_ret
    refine ⟨v', rfl, ?_, fun e => absurd (HN.out e) (by simp), HB.out⟩
    have e1 : ((A0.map fun (q : Nat) => (q : Int)).take A0.length).map (Value.int .i64) = ints A0 := by
      rw [List.take_of_length_le (by simp)]; simp [ints]
    have ho := HO.out
    rw [e1] at ho
    exact ⟨ho.1, ho.2.imp id (fun ⟨g, cap, cur, h1, h2, h3⟩ => ⟨g, cap, cur, h1, Nat.le_trans hBw h2, h3⟩)⟩
end Go.Proofs.YtochckefnjobhaaDoor
