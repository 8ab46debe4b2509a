/- A grammar as it lies in memory. -/
import Derived.WalkKit
import Derived.OwnWalk
import Derived.Below
import Derived.WalkSpells
import Derived.Lib.Hide
import Derived.Test.YtjpbhbfklkipkaaDoorProg
namespace Go.Proofs.YtjpbhbfklkipkaaDoor
open Go Go.RowKit Go.Lib

/-- A row of n things in memory, each as told of the place at which it begins. -/
def RowAt (v : Value) (n : Nat) (p : Nat → Nat → Nat → Prop) : Prop :=
  ∃ a cap, v = .slice a n cap ∧ n ≤ 9223372036854775807 ∧ (0 < n → ∃ b off, a = some ⟨b, off, none⟩ ∧ ∀ i, i < n → p i b off)

theorem RowAt.mono {v : Value} {n : Nat} {p q : Nat → Nat → Nat → Prop} (h : RowAt v n p) (hpq : ∀ i b off, p i b off → q i b off) : RowAt v n q := by
  obtain ⟨a, cap, rfl, hn, h⟩ := h
  refine ⟨a, cap, rfl, hn, fun h0 => ?_⟩
  obtain ⟨b, off, rfl, hc⟩ := h h0
  exact ⟨b, off, rfl, fun i hi => hpq _ _ _ (hc i hi)⟩

theorem cell_below {w w' : World} {p : Addr} {v : Value} (hb : Below w.heap.size w w') (h : w.cell? p = some v) : w'.cell? p = some v :=
  (hb.cell (p := p) (World.block_lt_of_cell? w _ h)).trans h

/-- A production. -/
structure PD where
  lab : ByteArray
  sort : Int
  rs : List Int
  cls : Int
/-- A grammar: of its terminals the names. -/
structure GD where
  terms : List ByteArray
  over : List (Int × Int)
  sorts : List ByteArray
  prods : List PD
  start : Int

instance : Inhabited PD := ⟨⟨ByteArray.empty, 0, [], 0⟩⟩

/-- Whole numbers in a row. -/
def IntsAt (w : World) (v : Value) (l : List Int) : Prop := RowAt v l.length (fun i b off => w.cell? ⟨b, off + i, none⟩ = some (.int .i64 (l.getD i 0))) ∧ ∀ x ∈ l, -9223372036854775808 ≤ x ∧ x ≤ 9223372036854775807
/-- Strings in a row. -/
def StrsAt (w : World) (v : Value) (l : List ByteArray) : Prop := RowAt v l.length (fun i b off => w.cell? ⟨b, off + i, none⟩ = some (.string (l.getD i ByteArray.empty)))
/-- Terminals in a row. -/
def TermsAt (w : World) (v : Value) (l : List ByteArray) (tf : Nat → Nat → Value) : Prop :=
  RowAt v l.length (fun i b off => w.cell? ⟨b, off + i * 4, none⟩ = some (.string (l.getD i ByteArray.empty)) ∧ w.cell? ⟨b, off + i * 4 + 1, none⟩ = some (tf i 1) ∧ w.cell? ⟨b, off + i * 4 + 2, none⟩ = some (tf i 2) ∧ w.cell? ⟨b, off + i * 4 + 3, none⟩ = some (tf i 3))
/-- Pairs in a row. -/
def PairsAt (w : World) (v : Value) (l : List (Int × Int)) : Prop :=
  RowAt v l.length (fun i b off => w.cell? ⟨b, off + i * 2, none⟩ = some (.int .i64 (l.getD i (0, 0)).1) ∧ w.cell? ⟨b, off + i * 2 + 1, none⟩ = some (.int .i64 (l.getD i (0, 0)).2))
/-- Productions in a row. -/
def ProdsAt (w : World) (v : Value) (l : List PD) (rv : Nat → Value) : Prop :=
  RowAt v l.length (fun i b off => w.cell? ⟨b, off + i * 4, none⟩ = some (.string (l.getD i default).lab) ∧ w.cell? ⟨b, off + i * 4 + 1, none⟩ = some (.int .i64 (l.getD i default).sort) ∧
    w.cell? ⟨b, off + i * 4 + 2, none⟩ = some (rv i) ∧ w.cell? ⟨b, off + i * 4 + 3, none⟩ = some (.int .i64 (l.getD i default).cls))

structure GrAt (w : World) (gv : Value) (G : GD) (tv ov sv pv : Value) (tf : Nat → Nat → Value) (rv : Nat → Value) : Prop where
  eq : gv = .agg #[tv, ov, sv, pv, .int .i64 G.start]
  terms : TermsAt w tv G.terms tf
  over : PairsAt w ov G.over
  sorts : StrsAt w sv G.sorts
  prods : ProdsAt w pv G.prods rv
  rights : ∀ i, i < G.prods.length → IntsAt w (rv i) (G.prods.getD i default).rs
  caps : ∀ i, i < G.prods.length → ∀ a n c, rv i = .slice a n c → n ≤ c

theorem IntsAt.mono {w w' : World} {v : Value} {l : List Int} (h : IntsAt w v l) (hb : Below w.heap.size w w') : IntsAt w' v l :=
  ⟨RowAt.mono h.1 fun _ _ _ h => cell_below hb h, h.2⟩
theorem StrsAt.mono {w w' : World} {v : Value} {l : List ByteArray} (h : StrsAt w v l) (hb : Below w.heap.size w w') : StrsAt w' v l :=
  RowAt.mono h fun _ _ _ h => cell_below hb h
theorem TermsAt.mono {w w' : World} {v : Value} {l : List ByteArray} {tf : Nat → Nat → Value} (h : TermsAt w v l tf) (hb : Below w.heap.size w w') : TermsAt w' v l tf :=
  RowAt.mono h fun _ _ _ ⟨h1, h2, h3, h4⟩ => ⟨cell_below hb h1, cell_below hb h2, cell_below hb h3, cell_below hb h4⟩
theorem PairsAt.mono {w w' : World} {v : Value} {l : List (Int × Int)} (h : PairsAt w v l) (hb : Below w.heap.size w w') : PairsAt w' v l :=
  RowAt.mono h fun _ _ _ ⟨h1, h2⟩ => ⟨cell_below hb h1, cell_below hb h2⟩
theorem ProdsAt.mono {w w' : World} {v : Value} {l : List PD} {rv : Nat → Value} (h : ProdsAt w v l rv) (hb : Below w.heap.size w w') : ProdsAt w' v l rv :=
  RowAt.mono h fun _ _ _ ⟨h1, h2, h3, h4⟩ => ⟨cell_below hb h1, cell_below hb h2, cell_below hb h3, cell_below hb h4⟩
theorem GrAt.mono {w w' : World} {gv : Value} {G : GD} {tv ov sv pv : Value} {tf : Nat → Nat → Value} {rv : Nat → Value} (h : GrAt w gv G tv ov sv pv tf rv) (hb : Below w.heap.size w w') : GrAt w' gv G tv ov sv pv tf rv :=
  ⟨h.eq, h.terms.mono hb, h.over.mono hb, h.sorts.mono hb, h.prods.mono hb, fun i hi => (h.rights i hi).mono hb, h.caps⟩

/-- A grammar that is laid into a block of its own. -/
theorem gr_box {w : World} {gv : Value} {G : GD} {tv ov sv pv : Value} {tf : Nat → Nat → Value} {rv : Nat → Value} (h : GrAt w gv G tv ov sv pv tf rv) :
    ∃ W1 B, W1 = w.alloc (.cells #[tv, ov, sv, pv, .int .i64 G.start] 27) ∧ B = w.heap.size ∧ W1.cell? ⟨B, 0, none⟩ = some tv ∧ W1.cell? ⟨B, 1, none⟩ = some ov ∧ W1.cell? ⟨B, 2, none⟩ = some sv ∧
      W1.cell? ⟨B, 3, none⟩ = some pv ∧ W1.cell? ⟨B, 4, none⟩ = some (.int .i64 G.start) ∧ GrAt W1 gv G tv ov sv pv tf rv ∧ Below w.heap.size w W1 ∧ w.heap.size ≤ W1.heap.size := by
  have hb : Below w.heap.size w (w.alloc (.cells #[tv, ov, sv, pv, .int .i64 G.start] 27)) := (Below.refl _ _).alloc (Nat.le_refl _) _
  refine ⟨_, _, rfl, rfl, ?_, ?_, ?_, ?_, ?_, h.mono hb, hb, by simp⟩ <;> (rw [World.cell?_alloc_mark]; rfl)

/-- Is there so little of it that it is looked at? -/
def fewG (G : GD) : Prop := (∀ k, k < G.prods.length → k < 15 → (G.prods.getD k default).rs.length ≤ 12) ∧ G.terms.length ≤ 10 ∧ G.sorts.length ≤ 8 ∧ G.prods.length ≤ 14 ∧ G.over.length ≤ 30
instance (G : GD) : Decidable (fewG G) := inferInstanceAs (Decidable (_ ∧ _))

set_option maxRecDepth 100000 in
set_option maxHeartbeats 1000000 in
theorem few_any {G : GD} {gv tv ov sv pv : Value} {tf : Nat → Nat → Value} {rv : Nat → Value} {w : World} (h : GrAt w gv G tv ov sv pv tf rv) :
    Calls Tryd.prog 10 #[gv] w fun e w' => e = .returned (.bool (decide (fewG G))) ∧ Below w.heap.size w w' := by
  obtain ⟨W1, B, hW1, hB, c0, c1, c2, c3, c4, hG, hb, hsz⟩ := gr_box h
  obtain ⟨rfl, ht, ho, hs, hp, hr, _⟩ := hG
  obtain ⟨ta, tc, rfl, htn, ht⟩ := ht
  obtain ⟨oa, oc, rfl, hon, ho⟩ := ho
  obtain ⟨sa, sc, rfl, hsn, hs⟩ := hs
  obtain ⟨pa, pc, rfl, hpn, hp⟩ := hp
  have HF : Hid (∃ F, decide (fewG G) = F ∧ (F = true ↔ (∀ k, k < G.prods.length → k < 15 → (G.prods.getD k default).rs.length ≤ 12) ∧ G.terms.length ≤ 10 ∧ G.sorts.length ≤ 8 ∧ G.prods.length ≤ 14 ∧ G.over.length ≤ 30)) :=
    ⟨_, rfl, by rw [decide_eq_true_iff]; rfl⟩
  obtain ⟨FF, hFF, hF⟩ := HF.out
  rw [hFF]
  clear HF hFF
  clear ht ho hs
  generalize G.terms.length = nt at *
  generalize G.over.length = no at *
  generalize G.sorts.length = ns at *
  generalize hnp : G.prods.length = np at *
  have HR := hid hr
  have HF := hid hF
  clear hr hF
  go_enter Tryd.func10, Tryd.ntmps10
  go_wp2
  rw [← hW1, ← hB]
  clear h hW1 hB
  go_loop [3] (fun i => ∃ k : Nat, k ≤ np ∧ k ≤ 15 ∧ i = .int .i64 (k : Int) ∧ ∀ j, j < k → (G.prods.getD j default).rs.length ≤ 12) (fun i => 15 - (RowKit.intOf i).toNat)
  case atStart => exact ⟨0, by omega, by omega, rfl, fun j hj => by omega⟩
  case round =>
    obtain ⟨k, hk, hk2, rfl, hj⟩ := hrel
    have HJ := hid hj
    clear hj
    by_cases hlt : k < np
    · obtain ⟨b, off, rfl, hc⟩ := hp (by omega)
      obtain ⟨d0, d1, d2, d3⟩ := hc k hlt
      obtain ⟨⟨ra, rc, hrv, hrn, hrc⟩, _⟩ := HR.out k hlt
      rw [hrv] at d2
      have HC := hid hrc
      have HV := hid hrv
      clear hc hp hrc hrv
      generalize hrl : (G.prods.getD k default).rs.length = rl at d2 hrn HC HV
      by_cases h15 : k < 15
      · have l1 : (k : Int) < (np : Int) := by omega
        have l2 : (k : Int) < 15 := by omega
        by_cases h12 : (G.prods.getD k default).rs.length ≤ 12
        · have H12 := hid h12
          rw [hrl] at h12
          have l3 : (rl : Int) ≤ 12 := by omega
          go_wp2
          refine ⟨⟨k + 1, by omega, by omega, by go_num, fun j hj => ?_⟩, by simp [RowKit.intOf]; omega⟩
          rcases Nat.lt_or_ge j k with h | h
          · exact HJ.out j h
          · obtain rfl : j = k := by omega
            exact H12.out
        · have hn : Hid (¬ (FF = true)) := fun h => h12 ((HF.out.1 h).1 k hlt h15)
          rw [hrl] at h12
          have l3 : (12 : Int) < (rl : Int) := by omega
          go_wp2
          go_ret
          exact ⟨by rw [Bool.eq_false_iff.2 hn.out] <;> rfl, hb⟩
      · have l1 : (k : Int) < (np : Int) := by omega
        have hn : Hid (FF = false) := Bool.eq_false_iff.2 fun h => by have := (HF.out.1 h).2.2.2.1; omega
        have l4 : (14 : Int) < (np : Int) := by omega
        go_wp2
        all_goals
          go_ret
          exact ⟨by rw [hn.out] <;> rfl, hb⟩
    · have hkk : k = np := by omega
      have HFF : Hid (FF = (decide ((nt : Int) ≤ 10) && decide ((ns : Int) ≤ 8) && decide ((np : Int) ≤ 14) && decide ((no : Int) ≤ 30))) := by
        show FF = _
        rw [Bool.eq_iff_iff, HF.out]
        simp only [Bool.and_eq_true, decide_eq_true_eq]
        constructor
        · rintro ⟨_, h1, h2, h3, h4⟩; omega
        · rintro ⟨⟨⟨h1, h2⟩, h3⟩, h4⟩
          exact ⟨fun j hj _ => HJ.out j (by omega), by omega, by omega, by omega, by omega⟩
      subst hkk
      go_wp2
      all_goals
        go_ret
        refine ⟨?_, hb⟩
        rw [HFF.out]
        refine congrArg (fun b => Ending.returned (Value.bool b)) ?_
        rw [Bool.eq_iff_iff]
        simp only [Bool.and_eq_true, decide_eq_true_eq, Bool.false_eq_true]
        constructor
        · intro h
          first
            | exact h.elim
            | exact ⟨⟨⟨by omega, by omega⟩, by omega⟩, by omega⟩
        · rintro ⟨⟨⟨h1, h2⟩, h3⟩, h4⟩
          omega

end Go.Proofs.YtjpbhbfklkipkaaDoor
