/- A row of items in one block; the library's sort puts it in order. -/
import Derived.Test.YtjpbhbfklkipkaaDoorSe
namespace Go.Proofs.YtjpbhbfklkipkaaDoor
open Go Go.RowKit Go.Lib Go.Sort
open X14 (It Less)
set_option linter.unusedVariables false
set_option linter.unusedSimpArgs false
/-- A row of items, from the beginning of a block. -/
def RowH (w : World) (g : Nat) (l : List It) : Prop := ∀ i (hi : i < l.length), w.cell? ⟨g, i * 2, none⟩ = some (.int .i64 l[i].1) ∧ w.cell? ⟨g, i * 2 + 1, none⟩ = some (.int .i64 l[i].2) ∧ w.frozen? ⟨g, i * 2, none⟩ = false ∧ w.frozen? ⟨g, i * 2 + 1, none⟩ = false
theorem RowH.of_own {w : World} {B c n g : Nat} {e : TypeId} {l : List It} (h : w.ownsRow B e 2 (.slice (some ⟨g, 0, none⟩) n c) n (icells l)) (hn : l.length = n) : RowH w g l := fun i hi => by
  obtain ⟨g', e1, _, h1, h2⟩ := items_own h hi hn
  injection e1 with e1
  injection e1 with e1
  subst e1
  rcases h.2 with ⟨e2, _⟩ | ⟨g', cap, cur, e2, _, hg, _⟩
  · cases e2
  · injection e2 with e2
    injection e2 with e2
    injection e2 with e2
    subst e2
    exact ⟨h1, h2, Lib.frozen_of_heap hg _, Lib.frozen_of_heap hg _⟩
theorem RowH.kept {w w' : World} {g : Nat} {l : List It} (h : RowH w g l) (hb : w'.heap[g]? = w.heap[g]?) : RowH w' g l := fun i hi => by
  obtain ⟨h1, h2, h3, h4⟩ := h i hi
  exact ⟨(World.cell?_of_block (a := ⟨g, _, none⟩) hb).trans h1, (World.cell?_of_block (a := ⟨g, _, none⟩) hb).trans h2, (World.frozen?_of_block (a := ⟨g, _, none⟩) hb).trans h3, (World.frozen?_of_block (a := ⟨g, _, none⟩) hb).trans h4⟩
theorem RowH.holds {w : World} {g : Nat} {l : List It} (h : RowH w g l) : HoldsK encI 2 w g 0 l.toArray := fun j hj => by
  have hj' : j < l.toArray.size * 2 := by simpa using hj
  have hl : l.toArray.size = l.length := List.size_toArray
  have hd : j / 2 < l.length := by omega
  obtain ⟨h1, h2, h3, h4⟩ := h (j / 2) hd
  have e0 : l.toArray[j / 2]! = l[j / 2] := by
    rw [getElem!_pos l.toArray (j / 2) (by omega)]; simp
  rw [get_flatK _ _ _ _ hj', e0, Nat.zero_add]
  rcases Nat.mod_two_eq_zero_or_one j with hm | hm
  · have e1 : (⟨g, j / 2 * 2, none⟩ : Addr) = ⟨g, j, none⟩ := by simp only [Addr.mk.injEq, true_and, and_true]; omega
    rw [e1] at h1 h3
    rw [hm]
    exact ⟨h1, h3⟩
  · have e1 : (⟨g, j / 2 * 2 + 1, none⟩ : Addr) = ⟨g, j, none⟩ := by simp only [Addr.mk.injEq, true_and, and_true]; omega
    rw [e1] at h2 h4
    rw [hm]
    exact ⟨h2, h4⟩
theorem RowH.of_holds {w : World} {g : Nat} {l : List It} (h : HoldsK encI 2 w g 0 l.toArray) : RowH w g l := fun i hi => by
  have hl : l.toArray.size = l.length := List.size_toArray
  have e0 : l.toArray[i]! = l[i] := by
    rw [getElem!_pos l.toArray i (by omega)]; simp
  have h0 := h (i * 2) (by rw [size_flatK]; omega)
  have h1 := h (i * 2 + 1) (by rw [size_flatK]; omega)
  rw [get_flatK _ _ _ _ (by omega), Nat.zero_add, show i * 2 / 2 = i by omega, show i * 2 % 2 = 0 by omega, e0] at h0
  rw [get_flatK _ _ _ _ (by omega), Nat.zero_add, show (i * 2 + 1) / 2 = i by omega, show (i * 2 + 1) % 2 = 1 by omega, e0] at h1
  exact ⟨h0.1, h1.1, h0.2, h1.2⟩
theorem putRowK_block (w : World) (n g : Nat) (d : Array It) (os : Array Obj) (k : Nat) (hk : k < w.heap.size) (hne : k ≠ g) : (sortWorldK encI 2 w g 0 n d os).heap[k]? = w.heap[k]? := by
  unfold sortWorldK grow
  have hs : (putRowK encI 2 (Sort.ahead w n) g 0 d).heap.size = w.heap.size := by simp [putRowK, putRow, mapBlock, Sort.ahead]
  show ((putRowK encI 2 (Sort.ahead w n) g 0 d).heap ++ os)[k]? = _
  rw [Array.getElem?_append_left (by rw [hs]; exact hk)]
  unfold putRowK putRow mapBlock Sort.ahead
  show (w.heap.modify g _)[k]? = _
  rw [Array.getElem?_modify, if_neg (fun e => hne e.symm)]
def SortP (g : Nat) (l : List It) (w : World) (e : Ending) (w' : World) : Prop := e = .returned (.tuple #[]) ∧ ∃ l', (∀ x, x ∈ l' ↔ x ∈ l) ∧ l'.length = l.length ∧ X14.Ord l' ∧ RowH w' g l' ∧ KeptX w.heap.size g w w'
theorem sort_any {w : World} {g c : Nat} {l : List It} (hR : RowH w g l) (hg : g < w.heap.size) (hl : l.length < 4611686018427387904) :
    Calls Tryd.prog 50 #[.slice (some ⟨g, 0, none⟩) l.length c, .func (.func 51) #[] #[]] w (SortP g l w) := by
  have eg : ∀ args w, (callFunc 51 args).run Tryd.prog w = .ok (.enter 51 args) w := enters_of Tryd.func51 (by kernel_rfl) rfl
  have hs : l.toArray.size = l.length := List.size_toArray
  have hcon := AnyQ.slices_SortFunc_total Tryd.sortIt 2 Tryd.isAgg37 Tryd.sizeOf37 encI (fun _ => rfl) (fun x v hv => by simp [encI] at hv; rcases hv with rfl | rfl <;> rfl) cmpX cmp_swo 51 #[] g 0 c l.toArray w eg (fun _ _ _ _ x y => compareItems_any x y _) hR.holds hg (by omega) cmp_total
  change Calls Tryd.prog 50 _ _ _ at hcon
  rw [hs] at hcon
  refine hcon.mono ?_
  rintro e w' ⟨rfl, n, os, rfl⟩
  refine ⟨rfl, l.mergeSort fun x y => !ltOf cmpX y x, fun x => List.mem_mergeSort, List.length_mergeSort l, ?_, ?_, ?_⟩
  · unfold X14.Ord
    have := List.pairwise_mergeSort (le := fun x y => !ltOf cmpX y x) (fun a b c h1 h2 => by
      simp only [Bool.not_eq_true', cmp_not] at *
      unfold Less at *
      omega) (fun a b => by
      simp only [Bool.or_eq_true, Bool.not_eq_true', cmp_not]
      unfold Less
      omega) l
    exact this.imp fun {a b} h => by simpa [cmp_not] using h
  · refine RowH.of_holds ?_
    refine holdsK_grow encI 2 _ os g 0 _ (by simp [putRowK, putRow, mapBlock, Sort.ahead]; exact hg) ?_
    exact holdsK_putRowK encI 2 _ g 0 l.toArray _ (holdsK_ahead encI 2 w n g 0 _ hR.holds) (by simp [List.length_mergeSort])
  · refine ⟨rfl, rfl, rfl, ?_, fun k hk hne => putRowK_block w n g _ os k hk hne⟩
    unfold sortWorldK grow
    show w.heap.size ≤ ((putRowK encI 2 (Sort.ahead w n) g 0 _).heap ++ os).size
    rw [Array.size_append]
    have : (putRowK encI 2 (Sort.ahead w n) g 0 (l.mergeSort fun x y => !ltOf cmpX y x).toArray).heap.size = w.heap.size := by simp [putRowK, putRow, mapBlock, Sort.ahead]
    simp only [List.toList_toArray] at *
    omega
theorem sort_none (p : Option Addr) (c : Nat) (w : World) : Calls Tryd.prog 50 #[.slice p 0 c, .func (.func 51) #[] #[]] w fun e w' => e = .returned (.tuple #[]) ∧ w' = w := by
  have h := AnyF.slices_SortFunc_none Tryd.sortIt p c (.func (.func 51) #[] #[]) w
  exact h
end Go.Proofs.YtjpbhbfklkipkaaDoor
