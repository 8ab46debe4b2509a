/- Items in order: the library's sort, with the program's own comparing. -/
import Derived.Test.YticmnfmijdgmbaaGreatDoorGb
import Derived.Shelf.SlSortCmp.WholeK
import Derived.Shelf.SlSortCmp.NoneTotal
import Derived.Shelf.Lay
import Derived.Ground.SlsfProg
import Derived.Test.YticmnfmijdgmbaaGreatDoorSa
namespace Go.Proofs
open Go Go.Shelf Go.RowKit Go.Lib Go.Sort
shelf_lay_g SlLaysF0.n6 Slsf 6 at Tryz 128 as Tryz.sortIt
end Go.Proofs
namespace Go.Proofs.YticmnfmijdgmbaaGreatDoor
open Go Go.RowKit Go.Lib Go.Sort
open X14 (It Less Ord)
set_option linter.unusedVariables false
set_option linter.unusedSimpArgs false
theorem isNaN_any (x : Int) (w : World) : Calls Tryz.prog 138 #[.int .i64 x] w fun e w' => e = .returned (.bool false) ∧ w' = w := by
 go_enter Tryz.func138, Tryz.ntmps138
 go_wp2
 go_ret
 exact ⟨by simp, rfl⟩
set_option maxHeartbeats 1000000 in
theorem compare_any (x y : Int) (w : World) : Calls Tryz.prog 131 #[.int .i64 x, .int .i64 y] w fun e w' => e = .returned (.int .i64 (Lib.compareInt x y)) ∧ w' = w := by
 have K := hid fun (z : Int) (W : World) => isNaN_any z W
 obtain ⟨r, hr⟩ : ∃ r, Lib.compareInt x y = r := ⟨_, rfl⟩
 have HR := hid hr
 rw [hr]
 clear hr
 by_cases h1 : x < y
 ·have d1 : decide (x < y) = true := decide_eq_true h1
  have e : r = -1 := by rw [← HR.out]; unfold Lib.compareInt; rw [if_pos h1]
  subst e
  go_enter Tryz.func131, Tryz.ntmps131
  go_wp2_with fail
  refine (K.out _ _).mono ?_
  rintro e w' ⟨rfl, rfl⟩
  go_wp2_with fail
  refine (K.out _ _).mono ?_
  rintro e w' ⟨rfl, rfl⟩
  go_wp2_with fail
  go_ret
  exact ⟨rfl, rfl⟩
 ·have d1 : decide (x < y) = false := decide_eq_false h1
  by_cases h2 : y < x
  ·have d2 : decide (y < x) = true := decide_eq_true h2
   have e : r = 1 := by rw [← HR.out]; unfold Lib.compareInt; rw [if_neg h1, if_pos h2]
   subst e
   go_enter Tryz.func131, Tryz.ntmps131
   go_wp2_with fail
   refine (K.out _ _).mono ?_
   rintro e w' ⟨rfl, rfl⟩
   go_wp2_with fail
   refine (K.out _ _).mono ?_
   rintro e w' ⟨rfl, rfl⟩
   go_wp2_with fail
   go_ret
   exact ⟨rfl, rfl⟩
  ·have d2 : decide (y < x) = false := decide_eq_false h2
   have e : r = 0 := by rw [← HR.out]; unfold Lib.compareInt; rw [if_neg h1, if_neg h2]
   subst e
   go_enter Tryz.func131, Tryz.ntmps131
   go_wp2_with fail
   refine (K.out _ _).mono ?_
   rintro e w' ⟨rfl, rfl⟩
   go_wp2_with fail
   refine (K.out _ _).mono ?_
   rintro e w' ⟨rfl, rfl⟩
   go_wp2_with fail
   go_ret
   exact ⟨rfl, rfl⟩
def orX (a b : Int) : Int := if a = 0 then b else a
set_option maxHeartbeats 2000000 in
theorem or_any (a b : Int) (g : Nat) (w : World) (h : w.heap[g]? = some (.cells #[.int .i64 a, .int .i64 b] 3 (0, 0))) : Calls Tryz.prog 130 #[.slice (some ⟨g, 0, none⟩) 2 2] w fun e w' => e = .returned (.int .i64 (orX a b)) ∧ w' = w := by
 have c0 : w.cell? ⟨g, 0, none⟩ = some (.int .i64 a) := Lib.cell_of_heap h 0
 have c1 : w.cell? ⟨g, 1, none⟩ = some (.int .i64 b) := Lib.cell_of_heap h 1
 obtain ⟨r, hr⟩ : ∃ r, orX a b = r := ⟨_, rfl⟩
 have HR := hid hr
 rw [hr]
 clear hr h
 go_enter Tryz.func130, Tryz.ntmps130
 go_wp2_with fail
 go_loop [8, 5] (fun i v => ∃ k : Nat, k ≤ 2 ∧ i = .int .i64 (k : Int) ∧ (1 ≤ k → a = 0) ∧ (2 ≤ k → b = 0)) (fun i _ => 2 - (RowKit.intOf i).toNat)
 case atStart => exact ⟨0, by omega, rfl, by omega, by omega⟩
 case round =>
  obtain ⟨k, hk, rfl, h1, h2⟩ := hrel
  match k, hk with
  | 0, _ =>
   clear h1 h2
   by_cases ha : a = 0
   ·subst ha
    go_wp2_with fail
    refine ⟨⟨1, by omega, rfl, by simp, by omega⟩, ?_⟩
    decide
   ·have t0 : ((a : Int) != 0) = true := by simp [ha]
    have t1 : ((a : Int) == 0) = false := by simp [ha]
    have e : r = a := by rw [← HR.out]; unfold orX; rw [if_neg ha]
    subst e
    go_wp2_with fail
    go_ret
    exact ⟨rfl, by first | trivial | rfl⟩
  | 1, _ =>
   have ha := h1 (by omega)
   subst ha
   clear h1 h2
   by_cases hb : b = 0
   ·subst hb
    go_wp2_with fail
    refine ⟨⟨2, by omega, rfl, by simp, by simp⟩, ?_⟩
    decide
   ·have t0 : ((b : Int) != 0) = true := by simp [hb]
    have t1 : ((b : Int) == 0) = false := by simp [hb]
    have e : r = b := by rw [← HR.out]; unfold orX; rw [if_pos rfl]
    subst e
    go_wp2_with fail
    go_ret
    exact ⟨rfl, by first | trivial | rfl⟩
  | 2, _ =>
   have ha := h1 (by omega)
   have hb := h2 (by omega)
   subst ha
   subst hb
   have e : r = 0 := by rw [← HR.out]; rfl
   subst e
   clear h1 h2
   go_wp2_with fail
   go_ret
   exact ⟨rfl, by first | trivial | rfl⟩
def cmpX (x y : It) : Int := orX (Lib.compareInt x.1 y.1) (Lib.compareInt x.2 y.2)
def encI (x : It) : List Value := [.int .i64 x.1, .int .i64 x.2]
theorem cmp_less (x y : It) : ltOf cmpX x y = true ↔ Less x y := by
 unfold ltOf cmpX orX Lib.compareInt Less
 rw [decide_eq_true_iff]
 by_cases h1 : x.1 < y.1
 ·simp [h1]
 ·by_cases h2 : y.1 < x.1
  ·have : ¬ x.1 = y.1 := by omega
   simp [h1, h2, this]
  ·have : x.1 = y.1 := by omega
   by_cases h3 : x.2 < y.2
   ·simp [h1, h2, h3, this]
   ·by_cases h4 : y.2 < x.2 <;> simp [h1, h2, h3, h4]
theorem cmp_not (x y : It) : ltOf cmpX x y = false ↔ ¬ Less x y := by rw [← cmp_less, Bool.not_eq_true]
theorem cmp_swo : SWO (ltOf cmpX) where
 irrefl x := (cmp_not x x).2 X14.Less.irrefl
 trans x y z h1 h2 := (cmp_less x z).2 (((cmp_less x y).1 h1).trans ((cmp_less y z).1 h2))
 ntrans x y z h1 h2 := by
  rw [cmp_not] at *
  unfold Less at *
  omega
theorem cmp_total (x y : It) (h1 : ltOf cmpX x y = false) (h2 : ltOf cmpX y x = false) : x = y := X14.Less.total ((cmp_not x y).1 h1) ((cmp_not y x).1 h2)
set_option maxRecDepth 100000 in
set_option maxHeartbeats 4000000 in
theorem compareItems_any (x y : It) (W : World) : Calls Tryz.prog 129 #[.agg #[.int .i64 x.1, .int .i64 x.2], .agg #[.int .i64 y.1, .int .i64 y.2]] W fun e w' => e = .returned (.int .i64 (cmpX x y)) ∧ ∃ q os', w' = grow (W.drewN q) os' := by
 obtain ⟨W1, e1⟩ : ∃ W1, W.alloc (.cells #[.int .i64 x.1, .int .i64 x.2] 60) = W1 := ⟨_, rfl⟩
 obtain ⟨W2, e2⟩ : ∃ W2, W1.alloc (.cells #[.int .i64 y.1, .int .i64 y.2] 60) = W2 := ⟨_, rfl⟩
 obtain ⟨we, ewe⟩ : ∃ we, W2.drew = we := ⟨_, rfl⟩
 obtain ⟨a, ha⟩ : ∃ a, Lib.compareInt x.1 y.1 = a := ⟨_, rfl⟩
 obtain ⟨b, hb⟩ : ∃ b, Lib.compareInt x.2 y.2 = b := ⟨_, rfl⟩
 obtain ⟨w3, e3⟩ : ∃ w3, we.alloc (.cells #[.int .i64 a, .int .i64 b] 3) = w3 := ⟨_, rfl⟩
 have hb2 : Below W1.heap.size W1 W2 := by rw [← e2]; exact (Below.refl _ _).alloc (Nat.le_refl _) _
 have hbe : Below W2.heap.size W2 we := by rw [← ewe]; exact (Below.refl _ _).drew
 have n1 : W1.heap[W.heap.size]? = some (.cells #[.int .i64 x.1, .int .i64 x.2] 60 (0, 0)) := by rw [← e1]; exact new_block _ _
 have n2 : W2.heap[W1.heap.size]? = some (.cells #[.int .i64 y.1, .int .i64 y.2] 60 (0, 0)) := by rw [← e2]; exact new_block _ _
 have n3 : w3.heap[we.heap.size]? = some (.cells #[.int .i64 a, .int .i64 b] 3 (0, 0)) := by rw [← e3]; exact new_block _ _
 have m1 : we.heap[W.heap.size]? = some (.cells #[.int .i64 x.1, .int .i64 x.2] 60 (0, 0)) := (hbe.block _ (Nat.lt_of_lt_of_le (Array.getElem?_eq_some_iff.1 n1).1 hb2.size)).trans ((hb2.block _ (Array.getElem?_eq_some_iff.1 n1).1).trans n1)
 have m2 : we.heap[W1.heap.size]? = some (.cells #[.int .i64 y.1, .int .i64 y.2] 60 (0, 0)) := (hbe.block _ (Array.getElem?_eq_some_iff.1 n2).1).trans n2
 have hS : we.cell? ⟨W.heap.size, 0, none⟩ = some (.int .i64 x.1) ∧ we.cell? ⟨W.heap.size, 1, none⟩ = some (.int .i64 x.2) ∧ we.cell? ⟨W1.heap.size, 0, none⟩ = some (.int .i64 y.1) ∧ we.cell? ⟨W1.heap.size, 1, none⟩ = some (.int .i64 y.2) := ⟨Lib.cell_of_heap m1 0, Lib.cell_of_heap m1 1, Lib.cell_of_heap m2 0, Lib.cell_of_heap m2 1⟩
 have HEND := hid (show ∃ q os', w3 = grow (W.drewN q) os' from ⟨1, #[.cells #[.int .i64 x.1, .int .i64 x.2] 60 (0, 0), .cells #[.int .i64 y.1, .int .i64 y.2] 60 (0, 0), .cells #[.int .i64 a, .int .i64 b] 3 (0, 0)], by
  rw [← e3, ← ewe, ← e2, ← e1]
  have h1 : ∀ (o1 o2 : Obj), ((W.alloc o1).alloc o2).drew = grow (W.drewN 1) #[o1, o2] := fun o1 o2 => by rw [alloc_eq_grow, alloc_eq_grow, grow_grow]; rfl
  rw [h1, alloc_eq_grow, grow_grow]
  rfl⟩)
 have KA := hid (show ∀ W, Calls Tryz.prog 131 #[.int .i64 x.1, .int .i64 y.1] W fun e w' => e = .returned (.int .i64 a) ∧ w' = W from fun W => by rw [← ha]; exact compare_any _ _ W)
 have KB := hid (show ∀ W, Calls Tryz.prog 131 #[.int .i64 x.2, .int .i64 y.2] W fun e w' => e = .returned (.int .i64 b) ∧ w' = W from fun W => by rw [← hb]; exact compare_any _ _ W)
 have KO := hid (or_any a b we.heap.size w3 n3)
 have HH0 := hS
 unfold cmpX
 rw [ha, hb]
 have H3 := hid n3
 have hc3 : w3.cell? ⟨W.heap.size, 0, none⟩ = some (.int .i64 x.1) ∧ w3.cell? ⟨W.heap.size, 1, none⟩ = some (.int .i64 x.2) ∧ w3.cell? ⟨W1.heap.size, 0, none⟩ = some (.int .i64 y.1) ∧ w3.cell? ⟨W1.heap.size, 1, none⟩ = some (.int .i64 y.2) := by
  have hb3 : Below we.heap.size we w3 := by rw [← e3]; exact (Below.refl _ _).alloc (Nat.le_refl _) _
  exact ⟨cell_bel hb3 (Array.getElem?_eq_some_iff.1 m1).1 hS.1, cell_bel hb3 (Array.getElem?_eq_some_iff.1 m1).1 hS.2.1, cell_bel hb3 (Array.getElem?_eq_some_iff.1 m2).1 hS.2.2.1, cell_bel hb3 (Array.getElem?_eq_some_iff.1 m2).1 hS.2.2.2⟩
 have HH3 := hid hc3
 have HE3 := hid e3
 clear hb2 hbe n1 n2 n3 m1 m2 hS ha hb hc3 e3
 generalize orX a b = r at *
 go_enter Tryz.func129, Tryz.ntmps129
 go_wp2_with fail
 refine region_T 12 (fun w' => w'.cell? ⟨W.heap.size, 0, none⟩ = some (.int .i64 x.1) ∧ w'.cell? ⟨W.heap.size, 1, none⟩ = some (.int .i64 x.2) ∧ w'.cell? ⟨W1.heap.size, 0, none⟩ = some (.int .i64 y.1) ∧ w'.cell? ⟨W1.heap.size, 1, none⟩ = some (.int .i64 y.2)) (by kernel_rfl) (by rw [ewe]; exact HH0) (fun inv hHeld => ?_)
 rw [ewe]
 clear hHeld ewe
 iterate 8
  refine anyT_auto (v := ?_) rfl (by kernel_rfl) (fun _ _ _ h => h) (Or.inl ⟨by rfl, ?_⟩) HH0 inv (fun inv => ?_)
  rotate_left
  ·intro w hSw
   try dsimp only at hSw
   go_simp
   try with_reducible rfl
  simp only [Act.put, sjA, sj0, sjS]
 refine anyT_next (i := 4) (o := { dst := some 9, op := Go.Op.call { callee := Go.Callee.value (Go.Operand.func 131), args := #[Go.Operand.tmp 6, Go.Operand.tmp 8], argTypes := #[3, 3] }, type := 3, pos := "states.go:72", after := #[{ on := 1, ground := Go.Ground.data }, { on := 3, ground := Go.Ground.data }], guard := none }) (by kernel_rfl) rfl (by decide) inv (fun inv K' hK => ?_)
 go_simp
 refine (KA.out _).mono ?_
 rintro e w' ⟨rfl, rfl⟩
 refine hK.out _ _ HH0 ?_
 clear hK K'
 try simp only [Act.put, sjA, sj0, sjS]
 refine anyT_next (i := 9) (o := { dst := some 14, op := Go.Op.call { callee := Go.Callee.value (Go.Operand.func 131), args := #[Go.Operand.tmp 11, Go.Operand.tmp 13], argTypes := #[3, 3] }, type := 3, pos := "states.go:72", after := #[{ on := 6, ground := Go.Ground.data }, { on := 8, ground := Go.Ground.data }, { on := 4, ground := Go.Ground.chain }], guard := none }) (by kernel_rfl) rfl (by decide) inv (fun inv K' hK => ?_)
 go_simp
 refine (KB.out _).mono ?_
 rintro e w' ⟨rfl, rfl⟩
 refine hK.out _ _ HH0 ?_
 clear hK K'
 try simp only [Act.put, sjA, sj0, sjS]
 refine anyT_next (i := 10) (o := { dst := some 15, op := Go.Op.buildSlice 43 2 #[(0, Go.Operand.tmp 9), (1, Go.Operand.tmp 14)], type := 43, pos := "states.go:72", after := #[{ on := 4, ground := Go.Ground.data }, { on := 9, ground := Go.Ground.data }], guard := none }) (by kernel_rfl) rfl (by decide) inv (fun inv K' hK => ?_)
 go_simp
 try rw [HE3.out]
 refine hK.out _ _ HH3.out ?_
 clear hK K'
 try simp only [Act.put, sjA, sj0, sjS]
 refine anyT_next (i := 11) (o := { dst := some 16, op := Go.Op.call { callee := Go.Callee.value (Go.Operand.func 130), args := #[Go.Operand.tmp 15], argTypes := #[43] }, type := 3, pos := "states.go:72", after := #[{ on := 10, ground := Go.Ground.data }, { on := 9, ground := Go.Ground.chain }], guard := none }) (by kernel_rfl) rfl (by decide) inv (fun inv K' hK => ?_)
 go_simp
 refine KO.out.mono ?_
 rintro e w' ⟨rfl, rfl⟩
 refine hK.out _ _ HH3.out ?_
 clear hK K'
 try simp only [Act.put, sjA, sj0, sjS]
 refine anyT_one (i := 12) (o := { dst := some 4, op := Go.Op.assign (Go.Operand.tmp 16), type := 3, pos := "states.go:72", after := #[{ on := 11, ground := Go.Ground.data }, { on := 11, ground := Go.Ground.chain }, { on := 0, ground := Go.Ground.phase }, { on := 1, ground := Go.Ground.phase }, { on := 2, ground := Go.Ground.phase }, { on := 3, ground := Go.Ground.phase }, { on := 4, ground := Go.Ground.phase }, { on := 5, ground := Go.Ground.phase }, { on := 6, ground := Go.Ground.phase }, { on := 7, ground := Go.Ground.phase }, { on := 8, ground := Go.Ground.phase }, { on := 9, ground := Go.Ground.phase }, { on := 10, ground := Go.Ground.phase }, { on := 11, ground := Go.Ground.phase }], guard := none }) (by kernel_rfl) rfl (fun K' hK => ?_)
 go_simp
 refine hK.out _ _ (fun h => absurd h (by decide)) ?_
 clear hK K'
 try simp only [Act.put, sjA, sj0, sjS]
 refine anyT_done (by kernel_rfl) ?_ _
 go_wp2_with fail
 go_ret
 exact ⟨rfl, HEND.out⟩
end Go.Proofs.YticmnfmijdgmbaaGreatDoor

namespace Go.Proofs.YticmnfmijdgmbaaGreatDoor
open Go Go.RowKit Go.Lib Go.Sort
open X14 (It Less)
set_option linter.unusedVariables false
set_option linter.unusedSimpArgs false
def RowH (w : World) (g : Nat) (l : List It) : Prop := ∀ i (hi : i < l.length), w.cell? ⟨g, i * 2, none⟩ = some (.int .i64 l[i].1) ∧ w.cell? ⟨g, i * 2 + 1, none⟩ = some (.int .i64 l[i].2) ∧ w.frozen? ⟨g, i * 2, none⟩ = false ∧ w.frozen? ⟨g, i * 2 + 1, none⟩ = false
theorem RowH.of_own {w : World} {B c n g : Nat} {e : TypeId} {l : List It} (h : w.ownsRow B e 2 (.slice (some ⟨g, 0, none⟩) n c) n (icells l)) (hn : l.length = n) : RowH w g l := fun i hi => by
 obtain ⟨g', e1, _, h1, h2⟩ := items_own h hi hn
 injection e1 with e1
 injection e1 with e1
 subst e1
 rcases h.2 with ⟨e2, _⟩ | ⟨g', cap, cur, e2, _, hg, _⟩
 ·cases e2
 ·injection e2 with e2
  injection e2 with e2
  injection e2 with e2
  subst e2
  exact ⟨h1, h2, Lib.frozen_of_heap hg _, Lib.frozen_of_heap hg _⟩
theorem RowH.kept {w w' : World} {g : Nat} {l : List It} (h : RowH w g l) (hb : w'.heap[g]? = w.heap[g]?) : RowH w' g l := fun i hi => by
 obtain ⟨h1, h2, h3, h4⟩ := h i hi
 exact ⟨(World.cell?_of_block (a := ⟨g, _, none⟩) hb).trans h1, (World.cell?_of_block (a := ⟨g, _, none⟩) hb).trans h2, (World.frozen?_of_block (a := ⟨g, _, none⟩) hb).trans h3, (World.frozen?_of_block (a := ⟨g, _, none⟩) hb).trans h4⟩
theorem RowH.holds {w : World} {g : Nat} {l : List It} (h : RowH w g l) : HoldsK encI 2 w g 0 l.toArray := fun j hj => by
 have hj' : j < l.toArray.size * 2 := by simpa using hj
 have hl : l.toArray.size = l.length := List.size_toArray
 have hd : j / 2 < l.length := by omega
 obtain ⟨h1, h2, h3, h4⟩ := h (j / 2) hd
 have e0 : l.toArray[j / 2]! = l[j / 2] := by
  rw [getElem!_pos l.toArray (j / 2) (by omega)]; simp
 rw [get_flatK _ _ _ _ hj', e0, Nat.zero_add]
 rcases Nat.mod_two_eq_zero_or_one j with hm | hm
 ·have e1 : (⟨g, j / 2 * 2, none⟩ : Addr) = ⟨g, j, none⟩ := by simp only [Addr.mk.injEq, true_and, and_true]; omega
  rw [e1] at h1 h3
  rw [hm]
  exact ⟨h1, h3⟩
 ·have e1 : (⟨g, j / 2 * 2 + 1, none⟩ : Addr) = ⟨g, j, none⟩ := by simp only [Addr.mk.injEq, true_and, and_true]; omega
  rw [e1] at h2 h4
  rw [hm]
  exact ⟨h2, h4⟩
theorem RowH.of_holds {w : World} {g : Nat} {l : List It} (h : HoldsK encI 2 w g 0 l.toArray) : RowH w g l := fun i hi => by
 have hl : l.toArray.size = l.length := List.size_toArray
 have e0 : l.toArray[i]! = l[i] := by
  rw [getElem!_pos l.toArray i (by omega)]; simp
 have h0 := h (i * 2) (by rw [size_flatK]; omega)
 have h1 := h (i * 2 + 1) (by rw [size_flatK]; omega)
 rw [get_flatK _ _ _ _ (by omega), Nat.zero_add, show i * 2 / 2 = i by omega, show i * 2 % 2 = 0 by omega, e0] at h0
 rw [get_flatK _ _ _ _ (by omega), Nat.zero_add, show (i * 2 + 1) / 2 = i by omega, show (i * 2 + 1) % 2 = 1 by omega, e0] at h1
 exact ⟨h0.1, h1.1, h0.2, h1.2⟩
theorem putRowK_block (w : World) (n g : Nat) (d : Array It) (os : Array Obj) (k : Nat) (hk : k < w.heap.size) (hne : k ≠ g) : (sortWorldK encI 2 w g 0 n d os).heap[k]? = w.heap[k]? := by
 unfold sortWorldK grow
 have hs : (putRowK encI 2 (Sort.ahead w n) g 0 d).heap.size = w.heap.size := by simp [putRowK, putRow, mapBlock, Sort.ahead]
 show ((putRowK encI 2 (Sort.ahead w n) g 0 d).heap ++ os)[k]? = _
 rw [Array.getElem?_append_left (by rw [hs]; exact hk)]
 unfold putRowK putRow mapBlock Sort.ahead
 show (w.heap.modify g _)[k]? = _
 rw [Array.getElem?_modify, if_neg (fun e => hne e.symm)]
def SortP (g : Nat) (l : List It) (w : World) (e : Ending) (w' : World) : Prop := e = .returned (.tuple #[]) ∧ ∃ l', (∀ x, x ∈ l' ↔ x ∈ l) ∧ l'.length = l.length ∧ X14.Ord l' ∧ RowH w' g l' ∧ KeptX w.heap.size g w w'
theorem sort_any {w : World} {g c : Nat} {l : List It} (hR : RowH w g l) (hg : g < w.heap.size) (hl : l.length < 4611686018427387904) :
  Calls Tryz.prog 128 #[.slice (some ⟨g, 0, none⟩) l.length c, .func (.func 129) #[] #[]] w (SortP g l w) := by
 have eg : ∀ args w, (callFunc 129 args).run Tryz.prog w = .ok (.enter 129 args) w := enters_of Tryz.func129 (by kernel_rfl) rfl
 have hs : l.toArray.size = l.length := List.size_toArray
 have hcon := AnyQ.slices_SortFunc_total Tryz.sortIt 2 Tryz.isAgg60 Tryz.sizeOf60 encI (fun _ => rfl) (fun x v hv => by simp [encI] at hv; rcases hv with rfl | rfl <;> rfl) cmpX cmp_swo 129 #[] g 0 c l.toArray w eg (fun _ _ _ _ x y => compareItems_any x y _) hR.holds hg (by omega) cmp_total
 change Calls Tryz.prog 128 _ _ _ at hcon
 rw [hs] at hcon
 refine hcon.mono ?_
 rintro e w' ⟨rfl, n, os, rfl⟩
 refine ⟨rfl, l.mergeSort fun x y => !ltOf cmpX y x, fun x => List.mem_mergeSort, List.length_mergeSort l, ?_, ?_, ?_⟩
 ·unfold X14.Ord
  have := List.pairwise_mergeSort (le := fun x y => !ltOf cmpX y x) (fun a b c h1 h2 => by
   simp only [Bool.not_eq_true', cmp_not] at *
   unfold Less at *
   omega) (fun a b => by
   simp only [Bool.or_eq_true, Bool.not_eq_true', cmp_not]
   unfold Less
   omega) l
  exact this.imp fun {a b} h => by simpa [cmp_not] using h
 ·refine RowH.of_holds ?_
  refine holdsK_grow encI 2 _ os g 0 _ (by simp [putRowK, putRow, mapBlock, Sort.ahead]; exact hg) ?_
  exact holdsK_putRowK encI 2 _ g 0 l.toArray _ (holdsK_ahead encI 2 w n g 0 _ hR.holds) (by simp [List.length_mergeSort])
 ·refine ⟨rfl, rfl, rfl, ?_, fun k hk hne => putRowK_block w n g _ os k hk hne⟩
  unfold sortWorldK grow
  show w.heap.size ≤ ((putRowK encI 2 (Sort.ahead w n) g 0 _).heap ++ os).size
  rw [Array.size_append]
  have : (putRowK encI 2 (Sort.ahead w n) g 0 (l.mergeSort fun x y => !ltOf cmpX y x).toArray).heap.size = w.heap.size := by simp [putRowK, putRow, mapBlock, Sort.ahead]
  simp only [List.toList_toArray] at *
  omega
end Go.Proofs.YticmnfmijdgmbaaGreatDoor
