/- A region that draws its order and ends with one operation that all others wait for: what holds of the world while the region runs need not hold behind that last one. -/
import Derived.StillTail
import Derived.OrdersHeld
import Derived.Deep.RegionHeld
import Derived.WalkKit
import Derived.OwnWalk
import Derived.Below
import Derived.WalkSpells
import Derived.Lib.Hide
import Derived.Test.YticmnfmijdgmbaaGreatDoorProg
import Derived.Deep.QuietTactic
import Derived.BigQuiet
import Derived.WalkSmall
import Derived.Deep.RegionHeld3
import Derived.Laws.BitsLemmas
namespace Go.Proofs.YticmnfmijdgmbaaGreatDoor
open Go
section
variable {P : Program} {ops : Array Oper} {Q : Exit → Act → World → Prop} {md : Region.Mode} {S : World → Prop} {n : Nat}
def AnyT (P : Program) (md : Region.Mode) (ops : Array Oper) (Q : Exit → Act → World → Prop) (S : World → Prop) (n : Nat) : Nat → Array Bool → Act → World → Prop
 | 0, listed, a, w => Region.ready md ops listed = [] ∧ Q .normal a w
 | fuel + 1, listed, a, w =>
  (Region.ready md ops listed = [] → Q .normal a w) ∧
  ∀ i ∈ Region.ready md ops listed, wpOp P ops Q i (fun a' w' => (i < n → S w') ∧ AnyT P md ops Q S n fuel (listed.setIfInBounds i true) a' w') a w
theorem any_of_T : ∀ (fuel : Nat) (listed : Array Bool) (a : Act) (w : World), AnyT P md ops Q S n fuel listed a w → wpAny P md ops Q fuel listed a w
 | 0, _, _, _, h => h
 | fuel + 1, _, _, _, h => ⟨h.1, fun i hi => wpOp_mono (fun a' w' h' => any_of_T fuel _ a' w' h'.2) (h.2 i hi)⟩
theorem anyT_first {i : Nat} {oi : Oper} {v : Value} (hi : ops[i]? = some oi) (hsel : ∀ (j : Nat) (o : Oper) cs b, ops[j]? = some o → o.op ≠ .select cs b)
  (hs : Region.sinkB md ops n = true) (hc : Region.chainB md ops n = true) (hn : n < ops.size) (hin : i < n)
  (hQ : ∀ c a w, Q (.panic c) (a.put oi.dst v) w → Q (.panic c) a w) :
  ∀ (fuel : Nat) (listed : Array Bool) (a : Act) (w : World), HeadInv md ops n listed →
   (∀ j oj, ops[j]? = some oj → j ≠ i → listed.getD j true = false → (∀ e ∈ oj.after, Region.binds md e = true → e.on ≠ i) → oi.apart ops oj = true) →
   i ∈ Region.ready md ops listed → YieldsIf P ops S oi v a → S w →
   AnyT P md ops Q S n fuel (listed.setIfInBounds i true) (a.put oi.dst v) w → AnyT P md ops Q S n (fuel + 1) listed a w := by
 intro fuel
 induction fuel with
 | zero =>
  intro listed a w _ _ hr hy hS H
  refine ⟨fun h => (by rw [h] at hr; cases hr), fun j hj => ?_⟩
  by_cases hji : j = i
  ·subst hji; exact hy.wpOp hi hS ⟨fun _ => hS, H⟩
  ·have := ready_mono hj hji
   rw [H.1] at this
   cases this
 | succ fuel ih =>
  intro listed a w inv hfree hr hy hS H
  have hun := (mem_ready.1 hr).1
  refine ⟨fun h => (by rw [h] at hr; cases hr), fun j hj => ?_⟩
  have hjn : j < n := by
   rcases Nat.lt_or_ge j n with h | h
   ·exact h
   ·exact absurd hj (tail_waits hs hc hn inv _ i rfl hin hun j h)
  by_cases hji : j = i
  ·subst hji; exact hy.wpOp hi hS ⟨fun _ => hS, H⟩
  ·have h1 := H.2 j (ready_mono hj hji)
   obtain ⟨hjun, oj, hoj, hall⟩ := mem_ready.1 hj
   have hnot : ∀ e ∈ oj.after, Region.binds md e = true → e.on ≠ i := fun e he hb heq => by
    have h1 := hall e he hb
    rw [heq, getD_both hun] at h1
    cases h1
   have h2 := wpOp_putIf hoj (hfree j oj hoj hji hjun hnot) (fun cs b => hsel i oi cs b hi) (fun cs b => hsel j oj cs b hoj) hQ hy h1
   have hfree' : ∀ k ok, ops[k]? = some ok → k ≠ i → (listed.setIfInBounds j true).getD k true = false →
     (∀ e ∈ ok.after, Region.binds md e = true → e.on ≠ i) → oi.apart ops ok = true := fun k ok hk hki hun hno => by
    refine hfree k ok hk hki ?_ hno
    by_cases hjk : j = k
    ·subst hjk; exact hjun
    ·rw [getD_set_ne true hjk] at hun; exact hun
   refine wpOp_mono (fun a' w' h3 => ⟨h3.2.1, ih (listed.setIfInBounds j true) a' w' (inv.set hj hjn) hfree' (ready_mono hr (Ne.symm hji)) h3.1 (h3.2.1 hjn) ?_⟩) h2
   rw [Array.setIfInBounds_comm _ _ hji]
   exact h3.2.2
theorem anyT_take {i : Nat} {oi : Oper} {v : Value} {fuel : Nat} {listed : Array Bool} {a : Act} {w : World} (hi : ops[i]? = some oi)
  (hs : Region.noSelect ops = true) (hk : Region.sinkB md ops n = true) (hc : Region.chainB md ops n = true) (hn : n < ops.size) (hin : i < n)
  (hf : Region.free md ops listed i = true) (hr : (Region.ready md ops listed).contains i = true)
  (hQ : ∀ c a w, Q (.panic c) (a.put oi.dst v) w → Q (.panic c) a w) (hy : YieldsIf P ops S oi v a) (hS : S w) (inv : HeadInv md ops n listed)
  (h : HeadInv md ops n (listed.setIfInBounds i true) → AnyT P md ops Q S n fuel (listed.setIfInBounds i true) (a.put oi.dst v) w) : AnyT P md ops Q S n (fuel + 1) listed a w :=
 anyT_first hi (Region.noSelect_spec hs) hk hc hn hin hQ fuel listed a w inv (Region.free_spec hi hf) (by simpa using hr) hy hS (h (inv.set (by simpa using hr) hin))
theorem anyT_one {i : Nat} {o : Oper} {fuel : Nat} {listed : Array Bool} {a : Act} {w : World} (hr : Region.ready md ops listed = [i]) (ho : ops[i]? = some o)
  (h : ∀ K' : Act → World → Prop, Shut (∀ a w, (i < n → S w) → AnyT P md ops Q S n fuel (listed.setIfInBounds i true) a w → K' a w) → if Region.wanted o (yielded ops a.tmps) = true then Oper.wp P o a w K' Q else K' (a.put o.dst undef) w) :
  AnyT P md ops Q S n (fuel + 1) listed a w := by
 refine ⟨fun h0 => (by rw [h0] at hr; cases hr), fun j hj => ?_⟩
 rw [hr] at hj
 obtain rfl : j = i := by simpa using hj
 exact wpOp_step ho (fun K' hK => h K' (fun a w h1 h2 => hK a w ⟨h1, h2⟩))
theorem anyT_done {listed : Array Bool} {a : Act} {w : World} (hr : Region.ready md ops listed = []) (h : Q .normal a w) :
  ∀ fuel, AnyT P md ops Q S n fuel listed a w
 | 0 => ⟨hr, h⟩
 | _ + 1 => ⟨fun _ => h, by rw [hr]; simp⟩
theorem inv_start (md : Region.Mode) (ops : Array Oper) (n : Nat) : HeadInv md ops n (Array.replicate ops.size false) := by
 refine ⟨by simp, fun j oj _ hl => ?_, fun t _ ht => by simp [ht]⟩
 rw [getD_replicate_false] at hl
 cases hl
theorem region_T {id : Nat} {a : Act} {w : World} (n : Nat) (S : World → Prop) (hm : P.follows .mixedOrders = true) (hS : S w.drew)
  (h : HeadInv .any ops n (Array.replicate ops.size false) → S w.drew → AnyT P .any ops Q S n ops.size (Array.replicate ops.size false) a w.drew) : (Code.region id ops true).wp P Q a w :=
 wp_region_any hm (any_of_T _ _ _ _ (h (inv_start _ _ _) hS))
end
theorem anyT_next {P : Program} {ops : Array Oper} {Q : Exit → Act → World → Prop} {md : Region.Mode} {S : World → Prop} {n i : Nat} {o : Oper} {fuel : Nat} {listed : Array Bool} {a : Act} {w : World}
  (hr : Region.ready md ops listed = [i]) (ho : ops[i]? = some o) (hin : i < n) (inv : HeadInv md ops n listed)
  (h : HeadInv md ops n (listed.setIfInBounds i true) → ∀ K' : Act → World → Prop, Shut (∀ a w, S w → AnyT P md ops Q S n fuel (listed.setIfInBounds i true) a w → K' a w) → if Region.wanted o (yielded ops a.tmps) = true then Oper.wp P o a w K' Q else K' (a.put o.dst undef) w) :
  AnyT P md ops Q S n (fuel + 1) listed a w :=
 anyT_one hr ho fun K' hK => h (inv.set (by rw [hr]; exact List.mem_cons_self) hin) K' fun a w h1 h2 => hK a w (fun _ => h1) h2
universe u
theorem sjA {α : Type u} (l : List α) (i : Nat) (a : α) : l.toArray.setIfInBounds i a = (l.set i a).toArray := List.setIfInBounds_toArray ..
theorem sj0 {α : Type u} {x a : α} {l : List α} : (x :: l).set 0 a = a :: l := rfl
theorem sjS {α : Type u} {x a : α} {l : List α} {n : Nat} : (x :: l).set (n + 1) a = x :: l.set n a := rfl
def plainT : Op → Bool
 | .move _ => true
 | .assign _ => true
 | .pick .. => true
 | .load .. => true
 | .nilCheck _ => true
 | .binOp .. => true
 | .unOp .. => true
 | .convert .. => true
 | .fieldAddr .. => true
 | .field .. => true
 | .indexAddr .. => true
 | .index .. => true
 | .extract .. => true
 | .build .. => true
 | .call c => match c.callee with
  | .builtin .len => true
  | _ => false
 | _ => false
def nthT : List Bool → Nat → Bool
 | [], _ => true
 | b :: _, 0 => b
 | _ :: l, k + 1 => nthT l k
def waitT (listed : List Bool) : List Edge → Bool
 | [] => true
 | e :: l => match !Region.binds .any e || nthT listed e.on with
  | true => waitT listed l
  | false => false
def nextT (listed : List Bool) (n : Nat) : List Oper → Nat → Option (Nat × Oper)
 | [], _ => none
 | o :: l, i => match !nthT listed i && (plainT o.op && (waitT listed o.after.toList && Nat.blt i n)) with
  | true => some (i, o)
  | false => nextT listed n l (i + 1)
theorem nextT_get {listed : List Bool} {n : Nat} : ∀ {l : List Oper} {k i : Nat} {o : Oper}, nextT listed n l k = some (i, o) → ∃ j, i = k + j ∧ l[j]? = some o
 | [], _, _, _, h => by cases h
 | x :: l, k, i, o, h => by
  unfold nextT at h
  split at h
  ·injection h with h
   injection h with h1 h2
   exact ⟨0, h1.symm, by rw [← h2]; rfl⟩
  ·obtain ⟨j, h1, h2⟩ := nextT_get h
   exact ⟨j + 1, by omega, by simpa using h2⟩
section
variable {P : Program} {ops : Array Oper} {Q : Exit → Act → World → Prop} {S : World → Prop} {n : Nat}
theorem anyT_auto {i : Nat} {oi : Oper} {v : Value} {fuel : Nat} {listed : Array Bool} {a : Act} {w : World} (hp : nextT listed.toList n ops.toList 0 = some (i, oi))
  (hz : (Region.noSelect ops && (Region.sinkB .any ops n && (Region.chainB .any ops n && (Nat.blt n ops.size && (Nat.blt i n && (Region.free .any ops listed i && (Region.ready .any ops listed).contains i)))))) = true)
  (hQ : ∀ c a w, Q (.panic c) (a.put oi.dst v) w → Q (.panic c) a w) (hy : YieldsIf P ops S oi v a) (hS : S w) (inv : HeadInv .any ops n listed)
  (h : HeadInv .any ops n (listed.setIfInBounds i true) → AnyT P .any ops Q S n fuel (listed.setIfInBounds i true) (a.put oi.dst v) w) : AnyT P .any ops Q S n (fuel + 1) listed a w := by
 simp only [Bool.and_eq_true] at hz
 obtain ⟨h1, h2, h3, h4, h5, h6, h7⟩ := hz
 obtain ⟨j, e, hj⟩ := nextT_get hp
 have hi : ops[i]? = some oi := by
  rw [e, Nat.zero_add, ← Array.getElem?_toList]
  exact hj
 exact anyT_take hi h1 h2 h3 (by simpa using h4) (by simpa using h5) h6 h7 hQ hy hS inv h
end
end Go.Proofs.YticmnfmijdgmbaaGreatDoor

namespace Go.Proofs.YticmnfmijdgmbaaGreatDoor
open Go Go.RowKit Go.Lib
def RowAt (v : Value) (n : Nat) (p : Nat → Nat → Nat → Prop) : Prop :=
 ∃ a cap, v = .slice a n cap ∧ n ≤ 9223372036854775807 ∧ (0 < n → ∃ b off, a = some ⟨b, off, none⟩ ∧ ∀ i, i < n → p i b off)
theorem RowAt.mono {v : Value} {n : Nat} {p q : Nat → Nat → Nat → Prop} (h : RowAt v n p) (hpq : ∀ i b off, p i b off → q i b off) : RowAt v n q := by
 obtain ⟨a, cap, rfl, hn, h⟩ := h
 refine ⟨a, cap, rfl, hn, fun h0 => ?_⟩
 obtain ⟨b, off, rfl, hc⟩ := h h0
 exact ⟨b, off, rfl, fun i hi => hpq _ _ _ (hc i hi)⟩
theorem cell_below {w w' : World} {p : Addr} {v : Value} (hb : Below w.heap.size w w') (h : w.cell? p = some v) : w'.cell? p = some v :=
 (hb.cell (p := p) (World.block_lt_of_cell? w _ h)).trans h
structure PD where
 lab : ByteArray
 sort : Int
 rs : List Int
 cls : Int
structure GD where
 terms : List ByteArray
 over : List (Int × Int)
 sorts : List ByteArray
 prods : List PD
 start : Int
instance : Inhabited PD := ⟨⟨ByteArray.empty, 0, [], 0⟩⟩
def IntsAt (w : World) (v : Value) (l : List Int) : Prop := RowAt v l.length (fun i b off => w.cell? ⟨b, off + i, none⟩ = some (.int .i64 (l.getD i 0))) ∧ ∀ x ∈ l, -9223372036854775808 ≤ x ∧ x ≤ 9223372036854775807
def StrsAt (w : World) (v : Value) (l : List ByteArray) : Prop := RowAt v l.length (fun i b off => w.cell? ⟨b, off + i, none⟩ = some (.string (l.getD i ByteArray.empty)))
def TermsAt (w : World) (v : Value) (l : List ByteArray) (tf : Nat → Nat → Value) : Prop :=
 RowAt v l.length (fun i b off => w.cell? ⟨b, off + i * 4, none⟩ = some (.string (l.getD i ByteArray.empty)) ∧ w.cell? ⟨b, off + i * 4 + 1, none⟩ = some (tf i 1) ∧ w.cell? ⟨b, off + i * 4 + 2, none⟩ = some (tf i 2) ∧ w.cell? ⟨b, off + i * 4 + 3, none⟩ = some (tf i 3))
def PairsAt (w : World) (v : Value) (l : List (Int × Int)) : Prop :=
 RowAt v l.length (fun i b off => w.cell? ⟨b, off + i * 2, none⟩ = some (.int .i64 (l.getD i (0, 0)).1) ∧ w.cell? ⟨b, off + i * 2 + 1, none⟩ = some (.int .i64 (l.getD i (0, 0)).2))
def ProdsAt (w : World) (v : Value) (l : List PD) (rv : Nat → Value) : Prop :=
 RowAt v l.length (fun i b off => w.cell? ⟨b, off + i * 4, none⟩ = some (.string (l.getD i default).lab) ∧ w.cell? ⟨b, off + i * 4 + 1, none⟩ = some (.int .i64 (l.getD i default).sort) ∧
  w.cell? ⟨b, off + i * 4 + 2, none⟩ = some (rv i) ∧ w.cell? ⟨b, off + i * 4 + 3, none⟩ = some (.int .i64 (l.getD i default).cls))
structure GrAt (w : World) (gv : Value) (G : GD) (tv ov sv pv : Value) (tf : Nat → Nat → Value) (rv : Nat → Value) : Prop where
 eq : gv = .agg #[tv, ov, sv, pv, .int .i64 G.start]
 terms : TermsAt w tv G.terms tf
 over : PairsAt w ov G.over
 sorts : StrsAt w sv G.sorts
 prods : ProdsAt w pv G.prods rv
 rights : ∀ i, i < G.prods.length → IntsAt w (rv i) (G.prods.getD i default).rs
 caps : ∀ i, i < G.prods.length → ∀ a n c, rv i = .slice a n c → n ≤ c
theorem IntsAt.mono {w w' : World} {v : Value} {l : List Int} (h : IntsAt w v l) (hb : Below w.heap.size w w') : IntsAt w' v l :=
 ⟨RowAt.mono h.1 fun _ _ _ h => cell_below hb h, h.2⟩
theorem StrsAt.mono {w w' : World} {v : Value} {l : List ByteArray} (h : StrsAt w v l) (hb : Below w.heap.size w w') : StrsAt w' v l :=
 RowAt.mono h fun _ _ _ h => cell_below hb h
theorem TermsAt.mono {w w' : World} {v : Value} {l : List ByteArray} {tf : Nat → Nat → Value} (h : TermsAt w v l tf) (hb : Below w.heap.size w w') : TermsAt w' v l tf :=
 RowAt.mono h fun _ _ _ ⟨h1, h2, h3, h4⟩ => ⟨cell_below hb h1, cell_below hb h2, cell_below hb h3, cell_below hb h4⟩
theorem PairsAt.mono {w w' : World} {v : Value} {l : List (Int × Int)} (h : PairsAt w v l) (hb : Below w.heap.size w w') : PairsAt w' v l :=
 RowAt.mono h fun _ _ _ ⟨h1, h2⟩ => ⟨cell_below hb h1, cell_below hb h2⟩
theorem ProdsAt.mono {w w' : World} {v : Value} {l : List PD} {rv : Nat → Value} (h : ProdsAt w v l rv) (hb : Below w.heap.size w w') : ProdsAt w' v l rv :=
 RowAt.mono h fun _ _ _ ⟨h1, h2, h3, h4⟩ => ⟨cell_below hb h1, cell_below hb h2, cell_below hb h3, cell_below hb h4⟩
theorem GrAt.mono {w w' : World} {gv : Value} {G : GD} {tv ov sv pv : Value} {tf : Nat → Nat → Value} {rv : Nat → Value} (h : GrAt w gv G tv ov sv pv tf rv) (hb : Below w.heap.size w w') : GrAt w' gv G tv ov sv pv tf rv :=
 ⟨h.eq, h.terms.mono hb, h.over.mono hb, h.sorts.mono hb, h.prods.mono hb, fun i hi => (h.rights i hi).mono hb, h.caps⟩
theorem gr_box {w : World} {gv : Value} {G : GD} {tv ov sv pv : Value} {tf : Nat → Nat → Value} {rv : Nat → Value} (h : GrAt w gv G tv ov sv pv tf rv) :
  ∃ W1 B, W1 = w.alloc (.cells #[tv, ov, sv, pv, .int .i64 G.start] 27) ∧ B = w.heap.size ∧ W1.cell? ⟨B, 0, none⟩ = some tv ∧ W1.cell? ⟨B, 1, none⟩ = some ov ∧ W1.cell? ⟨B, 2, none⟩ = some sv ∧
   W1.cell? ⟨B, 3, none⟩ = some pv ∧ W1.cell? ⟨B, 4, none⟩ = some (.int .i64 G.start) ∧ GrAt W1 gv G tv ov sv pv tf rv ∧ Below w.heap.size w W1 ∧ w.heap.size ≤ W1.heap.size := by
 have hb : Below w.heap.size w (w.alloc (.cells #[tv, ov, sv, pv, .int .i64 G.start] 27)) := (Below.refl _ _).alloc (Nat.le_refl _) _
 refine ⟨_, _, rfl, rfl, ?_, ?_, ?_, ?_, ?_, h.mono hb, hb, by simp⟩ <;> (rw [World.cell?_alloc_mark]; rfl)
def fewG (G : GD) : Prop := (∀ k, k < G.prods.length → k < 15 → (G.prods.getD k default).rs.length ≤ 12) ∧ G.terms.length ≤ 10 ∧ G.sorts.length ≤ 8 ∧ G.prods.length ≤ 14 ∧ G.over.length ≤ 30
instance (G : GD) : Decidable (fewG G) := inferInstanceAs (Decidable (_ ∧ _))
set_option maxRecDepth 100000 in
set_option maxHeartbeats 1000000 in
theorem few_any {G : GD} {gv tv ov sv pv : Value} {tf : Nat → Nat → Value} {rv : Nat → Value} {w : World} (h : GrAt w gv G tv ov sv pv tf rv) :
  Calls Tryz.prog 44 #[gv] w fun e w' => e = .returned (.bool (decide (fewG G))) ∧ Below w.heap.size w w' := by
 obtain ⟨W1, B, hW1, hB, c0, c1, c2, c3, c4, hG, hb, hsz⟩ := gr_box h
 obtain ⟨rfl, ht, ho, hs, hp, hr, _⟩ := hG
 obtain ⟨ta, tc, rfl, htn, ht⟩ := ht
 obtain ⟨oa, oc, rfl, hon, ho⟩ := ho
 obtain ⟨sa, sc, rfl, hsn, hs⟩ := hs
 obtain ⟨pa, pc, rfl, hpn, hp⟩ := hp
 have HF : Hid (∃ F, decide (fewG G) = F ∧ (F = true ↔ (∀ k, k < G.prods.length → k < 15 → (G.prods.getD k default).rs.length ≤ 12) ∧ G.terms.length ≤ 10 ∧ G.sorts.length ≤ 8 ∧ G.prods.length ≤ 14 ∧ G.over.length ≤ 30)) :=
  ⟨_, rfl, by rw [decide_eq_true_iff]; rfl⟩
 obtain ⟨FF, hFF, hF⟩ := HF.out
 rw [hFF]
 clear HF hFF
 clear ht ho hs
 generalize G.terms.length = nt at *
 generalize G.over.length = no at *
 generalize G.sorts.length = ns at *
 generalize hnp : G.prods.length = np at *
 have HR := hid hr
 have HF := hid hF
 clear hr hF
 go_enter Tryz.func44, Tryz.ntmps44
 go_wp2
 rw [← hW1, ← hB]
 clear h hW1 hB
 go_loop [3] (fun i => ∃ k : Nat, k ≤ np ∧ k ≤ 15 ∧ i = .int .i64 (k : Int) ∧ ∀ j, j < k → (G.prods.getD j default).rs.length ≤ 12) (fun i => 15 - (RowKit.intOf i).toNat)
 case atStart => exact ⟨0, by omega, by omega, rfl, fun j hj => by omega⟩
 case round =>
  obtain ⟨k, hk, hk2, rfl, hj⟩ := hrel
  have HJ := hid hj
  clear hj
  by_cases hlt : k < np
  ·obtain ⟨b, off, rfl, hc⟩ := hp (by omega)
   obtain ⟨d0, d1, d2, d3⟩ := hc k hlt
   obtain ⟨⟨ra, rc, hrv, hrn, hrc⟩, _⟩ := HR.out k hlt
   rw [hrv] at d2
   have HC := hid hrc
   have HV := hid hrv
   clear hc hp hrc hrv
   generalize hrl : (G.prods.getD k default).rs.length = rl at d2 hrn HC HV
   by_cases h15 : k < 15
   ·have l1 : (k : Int) < (np : Int) := by omega
    have l2 : (k : Int) < 15 := by omega
    by_cases h12 : (G.prods.getD k default).rs.length ≤ 12
    ·have H12 := hid h12
     rw [hrl] at h12
     have l3 : (rl : Int) ≤ 12 := by omega
     go_wp2
     refine ⟨⟨k + 1, by omega, by omega, by go_num, fun j hj => ?_⟩, by simp [RowKit.intOf]; omega⟩
     rcases Nat.lt_or_ge j k with h | h
     ·exact HJ.out j h
     ·obtain rfl : j = k := by omega
      exact H12.out
    ·have hn : Hid (¬ (FF = true)) := fun h => h12 ((HF.out.1 h).1 k hlt h15)
     rw [hrl] at h12
     have l3 : (12 : Int) < (rl : Int) := by omega
     go_wp2
     go_ret
     exact ⟨by rw [Bool.eq_false_iff.2 hn.out] <;> rfl, hb⟩
   ·have l1 : (k : Int) < (np : Int) := by omega
    have hn : Hid (FF = false) := Bool.eq_false_iff.2 fun h => by have := (HF.out.1 h).2.2.2.1; omega
    have l4 : (14 : Int) < (np : Int) := by omega
    go_wp2
    all_goals
     go_ret
     exact ⟨by rw [hn.out] <;> rfl, hb⟩
  ·have hkk : k = np := by omega
   have HFF : Hid (FF = (decide ((nt : Int) ≤ 10) && decide ((ns : Int) ≤ 8) && decide ((np : Int) ≤ 14) && decide ((no : Int) ≤ 30))) := by
    show FF = _
    rw [Bool.eq_iff_iff, HF.out]
    simp only [Bool.and_eq_true, decide_eq_true_eq]
    constructor
    ·rintro ⟨_, h1, h2, h3, h4⟩; omega
    ·rintro ⟨⟨⟨h1, h2⟩, h3⟩, h4⟩
     exact ⟨fun j hj _ => HJ.out j (by omega), by omega, by omega, by omega, by omega⟩
   subst hkk
   go_wp2
   all_goals
    go_ret
    refine ⟨?_, hb⟩
    rw [HFF.out]
    refine congrArg (fun b => Ending.returned (Value.bool b)) ?_
    rw [Bool.eq_iff_iff]
    simp only [Bool.and_eq_true, decide_eq_true_eq, Bool.false_eq_true]
    constructor
    ·intro h
     first
       | exact h.elim
       | exact ⟨⟨⟨by omega, by omega⟩, by omega⟩, by omega⟩
    ·rintro ⟨⟨⟨h1, h2⟩, h3⟩, h4⟩
     omega
theorem among_any (n c : Int) (w : World) : Calls Tryz.prog 97 #[.int .i64 n, .int .i64 c] w fun e w' => e = .returned (.bool (decide (0 ≤ n ∧ n < c))) ∧ w' = w := by
 go_enter Tryz.func97, Tryz.ntmps97
 go_wp2
 all_goals
  go_ret
  refine ⟨?_, rfl⟩
  refine congrArg (fun b => Ending.returned (Value.bool b)) ?_
  rw [Bool.eq_iff_iff]
  simp only [Bool.decide_and, Bool.and_eq_true, decide_eq_true_eq, Bool.false_eq_true, false_iff]
  omega
theorem name_s (x : ByteArray) (w : World) : Calls Tryz.prog 99 #[.string x] w fun e w' => e = .returned (.string x) ∧ w' = w := by
 go_enter Tryz.func99, Tryz.ntmps99
 go_wp2
 go_ret
 exact ⟨rfl, rfl⟩
def leS (x y : ByteArray) : Bool := Op.bytesLess x.toList y.toList || x.toList == y.toList
theorem run_leS (x y : ByteArray) (w : World) : (binOp .leq 9 (.string x) (.string y)).run Tryz.prog w = .ok (.bool (leS x y)) w := rfl
def riseB (l : List ByteArray) : Bool := decide (∀ k, k < l.length - 1 → leS (l.getD (k + 1) ByteArray.empty) (l.getD k ByteArray.empty) = false)
theorem rise_up {l : List ByteArray} (h : ∀ j, j < l.length - 1 → leS (l.getD (j + 1) ByteArray.empty) (l.getD j ByteArray.empty) = false) : riseB l = true := decide_eq_true h
theorem rise_no {l : List ByteArray} {k : Nat} (h1 : k + 1 < l.length) (h : leS (l.getD (k + 1) ByteArray.empty) (l.getD k ByteArray.empty) = true) : riseB l = false :=
 decide_eq_false fun h' => by have := h' k (by omega); rw [h] at this; cases this
theorem name_p (x : ByteArray) (s r c : Value) (w : World) : Calls Tryz.prog 101 #[.agg #[.string x, s, r, c]] w fun e w' => e = .returned (.string x) ∧ w' = w.alloc (.cells #[.string x, s, r, c] 71) := by
 go_enter Tryz.func101, Tryz.ntmps101
 go_wp2
 go_ret
 exact ⟨rfl, rfl⟩
theorem name_t (x : ByteArray) (s r c : Value) (w : World) : Calls Tryz.prog 103 #[.agg #[.string x, s, r, c]] w fun e w' => e = .returned (.string x) ∧ w' = w.alloc (.cells #[.string x, s, r, c] 105) := by
 go_enter Tryz.func103, Tryz.ntmps103
 go_wp2
 go_ret
 exact ⟨rfl, rfl⟩
set_option maxRecDepth 100000 in
set_option maxHeartbeats 1000000 in
theorem rise_s (l : List ByteArray) (sv : Value) (w : World) (h : StrsAt w sv l) : Calls Tryz.prog 98 #[sv, .func (.func 99) #[] #[]] w fun e w' => e = .returned (.bool (riseB l)) ∧ Below w.heap.size w w' := by
 obtain ⟨sa, sc, rfl, hsn, hs⟩ := h
 have RU := hid (rise_up (l := l))
 have RN := hid (fun k => rise_no (l := l) (k := k))
 generalize hB : riseB l = B at *
 clear hB
 generalize hnl : l.length = n at *
 go_enter Tryz.func98, Tryz.ntmps98
 go_wp2
 go_loopw [5] (fun i wr => ∃ k : Nat, (k + 1 ≤ n ∨ k = 0) ∧ i = .int .i64 ((k : Int) + 1) ∧ Below w.heap.size w wr ∧ ∀ j, j < k → leS (l.getD (j + 1) ByteArray.empty) (l.getD j ByteArray.empty) = false) (fun i _ => n - (RowKit.intOf i).toNat)
 case atStart => exact ⟨0, by omega, rfl, Below.refl _ _, fun j hj => by omega⟩
 case round =>
  obtain ⟨k, hk, rfl, hwb, hj⟩ := hrel
  have HJ := hid hj
  clear hj
  have hsz := hwb.size
  by_cases hlt : k + 1 < n
  ·obtain ⟨b, off, rfl, hc⟩ := hs (by omega)
   have g1 := cell_below hwb (hc (k + 1) hlt)
   have g2 := cell_below hwb (hc k (by omega))
   have HS : Hid (leS (l.getD (k + 1) ByteArray.empty) (l.getD k ByteArray.empty) = false → ∀ j, j < k + 1 → leS (l.getD (j + 1) ByteArray.empty) (l.getD j ByteArray.empty) = false) := fun h j hj => by
    rcases Nat.lt_or_ge j k with h1 | h1
    ·exact HJ.out j h1
    ·obtain rfl : j = k := by omega
     exact h
   have HN := hid (RN.out k hlt)
   clear hc HJ
   generalize l.getD k ByteArray.empty = x at *
   generalize l.getD (k + 1) ByteArray.empty = y at *
   have i0 : (0 : Int) ≤ (k : Int) + 1 := by omega
   have i1 : (k : Int) + 1 < (n : Int) := by omega
   have i3 : (0 : Int) ≤ (k : Int) := by omega
   have i4 : (k : Int) < (n : Int) := by omega
   have i5 : IntKind.i64.wrap (k : Int) = (k : Int) := by rw [IntKind.wrap_i64]; omega
   have i6 : ((k : Int) + 1).toNat = k + 1 := by omega
   have r1 := run_leS y x
   generalize leS y x = LE at *
   go_wp2_with fail
   go_quiet ((go_at_call 99; exact Calls.quiet_of_same (name_s _ _)))
   replace hwb := below_drewN hwb nq
   clear i5 i6
   cases LE
   ·have HS2 := hid (HS.out rfl)
    go_wp2
    exact ⟨⟨k + 1, by omega, by go_num, hwb, HS2.out⟩, by simp [RowKit.intOf]; omega⟩
   ·have HN2 := hid (HN.out rfl)
    go_wp2
    go_ret
    exact ⟨by rw [HN2.out] <;> rfl, hwb⟩
  ·have i1 : ¬ ((k : Int) + 1 < (n : Int)) := by omega
   have HT : Hid (B = true) := RU.out fun j hj => HJ.out j (by omega)
   go_wp2
   go_ret
   exact ⟨by rw [HT.out] <;> rfl, hwb⟩
set_option maxRecDepth 100000 in
set_option maxHeartbeats 1000000 in
theorem rise_p (l : List PD) (rv : Nat → Value) (sv : Value) (w : World) (h : ProdsAt w sv l rv) : Calls Tryz.prog 100 #[sv, .func (.func 101) #[] #[]] w fun e w' => e = .returned (.bool (riseB (l.map (·.lab)))) ∧ Below w.heap.size w w' := by
 obtain ⟨sa, sc, rfl, hsn, hs⟩ := h
 have RU := hid (rise_up (l := (l.map (·.lab))))
 have RN := hid (fun k => rise_no (l := (l.map (·.lab))) (k := k))
 have hln : (l.map (·.lab)).length = l.length := by simp
 generalize hB : riseB (l.map (·.lab)) = B at *
 rw [hln] at RU RN
 clear hB
 generalize hnl : l.length = n at *
 go_enter Tryz.func100, Tryz.ntmps100
 go_wp2
 go_loopw [5] (fun i wr => ∃ k : Nat, (k + 1 ≤ n ∨ k = 0) ∧ i = .int .i64 ((k : Int) + 1) ∧ Below w.heap.size w wr ∧ ∀ j, j < k → leS ((l.map (·.lab)).getD (j + 1) ByteArray.empty) ((l.map (·.lab)).getD j ByteArray.empty) = false) (fun i _ => n - (RowKit.intOf i).toNat)
 case atStart => exact ⟨0, by omega, rfl, Below.refl _ _, fun j hj => by omega⟩
 case round =>
  obtain ⟨k, hk, rfl, hwb, hj⟩ := hrel
  have HJ := hid hj
  clear hj
  have hsz := hwb.size
  by_cases hlt : k + 1 < n
  ·obtain ⟨b, off, rfl, hc⟩ := hs (by omega)
   obtain ⟨c0, c1, c2, c3⟩ := hc (k + 1) hlt
   obtain ⟨d0, d1, d2, d3⟩ := hc k (by omega)
   replace c0 := cell_below hwb c0
   replace c1 := cell_below hwb c1
   replace c2 := cell_below hwb c2
   replace c3 := cell_below hwb c3
   replace d0 := cell_below hwb d0
   replace d1 := cell_below hwb d1
   replace d2 := cell_below hwb d2
   replace d3 := cell_below hwb d3
   have e1 : (l.map (·.lab)).getD k ByteArray.empty = (l.getD k default).lab := by simp [List.getD_eq_getElem?_getD, List.getElem?_eq_getElem (show k < l.length by omega)]
   have e2 : (l.map (·.lab)).getD (k + 1) ByteArray.empty = (l.getD (k + 1) default).lab := by simp [List.getD_eq_getElem?_getD, List.getElem?_eq_getElem (show k + 1 < l.length by omega)]
   rw [← e1] at d0
   rw [← e2] at c0
   clear e1 e2
   have HS : Hid (leS ((l.map (·.lab)).getD (k + 1) ByteArray.empty) ((l.map (·.lab)).getD k ByteArray.empty) = false → ∀ j, j < k + 1 → leS ((l.map (·.lab)).getD (j + 1) ByteArray.empty) ((l.map (·.lab)).getD j ByteArray.empty) = false) := fun h j hj => by
    rcases Nat.lt_or_ge j k with h1 | h1
    ·exact HJ.out j h1
    ·obtain rfl : j = k := by omega
     exact h
   have HN := hid (RN.out k hlt)
   clear hc HJ
   generalize (l.map (·.lab)).getD k ByteArray.empty = x at *
   generalize (l.map (·.lab)).getD (k + 1) ByteArray.empty = y at *
   generalize Value.int IntKind.i64 (l.getD (k + 1) default).sort = vc1 at *
   generalize rv (k + 1) = vc2 at *
   generalize Value.int IntKind.i64 (l.getD (k + 1) default).cls = vc3 at *
   generalize Value.int IntKind.i64 (l.getD k default).sort = vd1 at *
   generalize rv k = vd2 at *
   generalize Value.int IntKind.i64 (l.getD k default).cls = vd3 at *
   have i0 : (0 : Int) ≤ (k : Int) + 1 := by omega
   have i1 : (k : Int) + 1 < (n : Int) := by omega
   have i3 : (0 : Int) ≤ (k : Int) := by omega
   have i4 : (k : Int) < (n : Int) := by omega
   have i5 : IntKind.i64.wrap (k : Int) = (k : Int) := by rw [IntKind.wrap_i64]; omega
   have i6 : ((k : Int) + 1).toNat = k + 1 := by omega
   have r1 := run_leS y x
   generalize leS y x = LE at *
   go_wp2_with fail
   have hb1 := World.block_lt_of_cell? wr _ c0
   go_region_held3 (fun w' => w'.cell? ⟨b, off + (k + 1) * 4, none⟩ = some (.string y) ∧ w'.cell? ⟨b, off + (k + 1) * 4 + 1, none⟩ = some vc1 ∧ w'.cell? ⟨b, off + (k + 1) * 4 + 2, none⟩ = some vc2 ∧ w'.cell? ⟨b, off + (k + 1) * 4 + 3, none⟩ = some vc3 ∧ w'.cell? ⟨b, off + k * 4, none⟩ = some (.string x) ∧ w'.cell? ⟨b, off + k * 4 + 1, none⟩ = some vd1 ∧ w'.cell? ⟨b, off + k * 4 + 2, none⟩ = some vd2 ∧ w'.cell? ⟨b, off + k * 4 + 3, none⟩ = some vd3)
    (go_keep)
    ((go_at_call 101; refine (name_p _ _ _ _ _).mono ?_; rintro e w6 ⟨rfl, rfl⟩))
   replace hwb := ((hwb.alloc hsz (.cells #[.string y, vc1, vc2, vc3] 71)).alloc (by simp; omega) (.cells #[.string x, vd1, vd2, vd3] 71)).drew
   clear i5 i6
   cases LE
   ·have HS2 := hid (HS.out rfl)
    go_wp2
    exact ⟨⟨k + 1, by omega, by go_num, hwb, HS2.out⟩, by simp [RowKit.intOf]; omega⟩
   ·have HN2 := hid (HN.out rfl)
    go_wp2
    go_ret
    exact ⟨by rw [HN2.out] <;> rfl, hwb⟩
  ·have i1 : ¬ ((k : Int) + 1 < (n : Int)) := by omega
   have HT : Hid (B = true) := RU.out fun j hj => HJ.out j (by omega)
   go_wp2
   go_ret
   exact ⟨by rw [HT.out] <;> rfl, hwb⟩
set_option maxRecDepth 100000 in
set_option maxHeartbeats 1000000 in
theorem rise_t (l : List ByteArray) (tf : Nat → Nat → Value) (sv : Value) (w : World) (h : TermsAt w sv l tf) : Calls Tryz.prog 102 #[sv, .func (.func 103) #[] #[]] w fun e w' => e = .returned (.bool (riseB l)) ∧ Below w.heap.size w w' := by
 obtain ⟨sa, sc, rfl, hsn, hs⟩ := h
 have RU := hid (rise_up (l := l))
 have RN := hid (fun k => rise_no (l := l) (k := k))
 generalize hB : riseB l = B at *
 clear hB
 generalize hnl : l.length = n at *
 go_enter Tryz.func102, Tryz.ntmps102
 go_wp2
 go_loopw [5] (fun i wr => ∃ k : Nat, (k + 1 ≤ n ∨ k = 0) ∧ i = .int .i64 ((k : Int) + 1) ∧ Below w.heap.size w wr ∧ ∀ j, j < k → leS (l.getD (j + 1) ByteArray.empty) (l.getD j ByteArray.empty) = false) (fun i _ => n - (RowKit.intOf i).toNat)
 case atStart => exact ⟨0, by omega, rfl, Below.refl _ _, fun j hj => by omega⟩
 case round =>
  obtain ⟨k, hk, rfl, hwb, hj⟩ := hrel
  have HJ := hid hj
  clear hj
  have hsz := hwb.size
  by_cases hlt : k + 1 < n
  ·obtain ⟨b, off, rfl, hc⟩ := hs (by omega)
   obtain ⟨c0, c1, c2, c3⟩ := hc (k + 1) hlt
   obtain ⟨d0, d1, d2, d3⟩ := hc k (by omega)
   replace c0 := cell_below hwb c0
   replace c1 := cell_below hwb c1
   replace c2 := cell_below hwb c2
   replace c3 := cell_below hwb c3
   replace d0 := cell_below hwb d0
   replace d1 := cell_below hwb d1
   replace d2 := cell_below hwb d2
   replace d3 := cell_below hwb d3
   have HS : Hid (leS (l.getD (k + 1) ByteArray.empty) (l.getD k ByteArray.empty) = false → ∀ j, j < k + 1 → leS (l.getD (j + 1) ByteArray.empty) (l.getD j ByteArray.empty) = false) := fun h j hj => by
    rcases Nat.lt_or_ge j k with h1 | h1
    ·exact HJ.out j h1
    ·obtain rfl : j = k := by omega
     exact h
   have HN := hid (RN.out k hlt)
   clear hc HJ
   generalize l.getD k ByteArray.empty = x at *
   generalize l.getD (k + 1) ByteArray.empty = y at *
   generalize tf (k + 1) 1 = vc1 at *
   generalize tf (k + 1) 2 = vc2 at *
   generalize tf (k + 1) 3 = vc3 at *
   generalize tf k 1 = vd1 at *
   generalize tf k 2 = vd2 at *
   generalize tf k 3 = vd3 at *
   have i0 : (0 : Int) ≤ (k : Int) + 1 := by omega
   have i1 : (k : Int) + 1 < (n : Int) := by omega
   have i3 : (0 : Int) ≤ (k : Int) := by omega
   have i4 : (k : Int) < (n : Int) := by omega
   have i5 : IntKind.i64.wrap (k : Int) = (k : Int) := by rw [IntKind.wrap_i64]; omega
   have i6 : ((k : Int) + 1).toNat = k + 1 := by omega
   have r1 := run_leS y x
   generalize leS y x = LE at *
   go_wp2_with fail
   have hb1 := World.block_lt_of_cell? wr _ c0
   go_region_held3 (fun w' => w'.cell? ⟨b, off + (k + 1) * 4, none⟩ = some (.string y) ∧ w'.cell? ⟨b, off + (k + 1) * 4 + 1, none⟩ = some vc1 ∧ w'.cell? ⟨b, off + (k + 1) * 4 + 2, none⟩ = some vc2 ∧ w'.cell? ⟨b, off + (k + 1) * 4 + 3, none⟩ = some vc3 ∧ w'.cell? ⟨b, off + k * 4, none⟩ = some (.string x) ∧ w'.cell? ⟨b, off + k * 4 + 1, none⟩ = some vd1 ∧ w'.cell? ⟨b, off + k * 4 + 2, none⟩ = some vd2 ∧ w'.cell? ⟨b, off + k * 4 + 3, none⟩ = some vd3)
    (go_keep)
    ((go_at_call 103; refine (name_t _ _ _ _ _).mono ?_; rintro e w6 ⟨rfl, rfl⟩))
   replace hwb := ((hwb.alloc hsz (.cells #[.string y, vc1, vc2, vc3] 105)).alloc (by simp; omega) (.cells #[.string x, vd1, vd2, vd3] 105)).drew
   clear i5 i6
   cases LE
   ·have HS2 := hid (HS.out rfl)
    go_wp2
    exact ⟨⟨k + 1, by omega, by go_num, hwb, HS2.out⟩, by simp [RowKit.intOf]; omega⟩
   ·have HN2 := hid (HN.out rfl)
    go_wp2
    go_ret
    exact ⟨by rw [HN2.out] <;> rfl, hwb⟩
  ·have i1 : ¬ ((k : Int) + 1 < (n : Int)) := by omega
   have HT : Hid (B = true) := RU.out fun j hj => HJ.out j (by omega)
   go_wp2
   go_ret
   exact ⟨by rw [HT.out] <;> rfl, hwb⟩
end Go.Proofs.YticmnfmijdgmbaaGreatDoor
