/- The document's rows as they lie in memory; an item's place in a row. -/
import Derived.Test.YticmnfmijdgmbaaGreatDoorGb
import Derived.Test.YticmnfmijdgmbaaGreatDoorYf
import Derived.Test.YticmnfmijdgmbaaGreatDoorRd
import Derived.Test.YticmnfmijdgmbaaGreatDoorXs
import Derived.Test.YticmnfmijdgmbaaGreatDoorQHs
import Derived.Test.YticmnfmijdgmbaaGreatDoorQMf
namespace Go.Proofs.YticmnfmijdgmbaaGreatDoor
open Go Go.RowKit Go.Lib
open X14 (It)
open S13 (u64 bitN top Sub)
open S13.X15 (Pl updA stC stC_upd stC_far stC_get findX)
set_option linter.unusedVariables false
set_option linter.unusedSimpArgs false
def bI (GB : List Nat) (C : Nat → List It) (A : Pl → Nat) (n : Nat) : List Item := (List.range n).map fun i => blkI (GB.getD i 0) (.cells (S13.sets (stC C A i)) 69 (0, 0))
theorem bI_get {GB : List Nat} {C : Nat → List It} {A : Pl → Nat} {n i : Nat} (hi : i < n) : (bI GB C A n)[i]? = some (blkI (GB.getD i 0) (.cells (S13.sets (stC C A i)) 69 (0, 0))) := by
 unfold bI
 rw [List.getElem?_map, List.getElem?_range hi]
 rfl
theorem bI_len (GB : List Nat) (C : Nat → List It) (A : Pl → Nat) (n : Nat) : (bI GB C A n).length = n := by unfold bI; simp
theorem bI_set {GB : List Nat} {C : Nat → List It} {A : Pl → Nat} {n i k : Nat} {x : It} (v : Nat) (hi : i < n) (hn : (C i).Nodup) (hx : (C i)[k]? = some x) :
  (bI GB C A n).set i (blkI (GB.getD i 0) (.cells ((S13.sets (stC C A i)).setIfInBounds k (u64 (A (i, x) ||| v))) 69 (0, 0))) = bI GB C (updA A (i, x) v) n := by
 refine List.ext_getElem? fun j => ?_
 by_cases hj : j < n
 ·rw [bI_get hj]
  by_cases e : i = j
  ·subst e
   rw [List.getElem?_set_self (by rw [bI_len]; exact hi), stC_upd hn hx]
   unfold S13.sets
   rw [List.map_set, List.setIfInBounds_toArray]
  ·rw [List.getElem?_set_ne e, bI_get hj, stC_far (fun e2 => e e2.symm)]
 ·rw [List.getElem?_eq_none (by rw [List.length_set, bI_len]; omega), List.getElem?_eq_none (by rw [bI_len]; omega)]
section
variable {B n i k : Nat} {W w : World} {l1 l2 : List Item} {GB : List Nat} {C : Nat → List It} {A : Pl → Nat} {x : It}
theorem foot_bget (h : Foot B W w (l1 ++ (bI GB C A n ++ l2))) (hi : i < n) : w.heap[GB.getD i 0]? = some (.cells (S13.sets (stC C A i)) 69 (0, 0)) :=
 foot_at h (k := i) (y := blkI (GB.getD i 0) (.cells (S13.sets (stC C A i)) 69 (0, 0))) (by rw [List.getElem?_append_left (by rw [bI_len]; exact hi)]; exact bI_get hi)
theorem foot_b (h : Foot B W w (l1 ++ (bI GB C A n ++ l2))) (v : Nat) (hi : i < n) (hn : (C i).Nodup) (hx : (C i)[k]? = some x) :
  Foot B W (w.setCell ⟨GB.getD i 0, k, none⟩ (u64 (A (i, x) ||| v))) (l1 ++ (bI GB C (updA A (i, x) v) n ++ l2)) := by
 have := foot_set (k := i) (i := k) (v := u64 (A (i, x) ||| v)) h (by rw [List.getElem?_append_left (by rw [bI_len]; exact hi)]; exact bI_get hi)
 rw [List.set_append_left _ _ (by rw [bI_len]; exact hi), bI_set v hi hn hx] at this
 exact this
theorem foot_bcell (h : Foot B W w (l1 ++ (bI GB C A n ++ l2))) (hi : i < n) (hx : (C i)[k]? = some x) : w.cell? ⟨GB.getD i 0, k, none⟩ = some (u64 (A (i, x))) ∧ w.frozen? ⟨GB.getD i 0, k, none⟩ = false := by
 have h1 := foot_bget h hi
 refine ⟨?_, ?_⟩
 ·rw [S13.cell_sets h1 (by unfold stC; rw [List.length_map]; exact (List.getElem?_eq_some_iff.1 hx).1), stC_get hx]
 ·exact Lib.frozen_of_heap h1 k
theorem foot_mem {l : List Item} (h : Foot B W w l) {y : Item} (hy : y ∈ l) : y.ok w := by
 obtain ⟨j, hj⟩ := List.mem_iff_getElem?.1 hy
 exact h.ok j y hj
end
structure RefR (C : Nat → List It) (n : Nat) (F : List (Nat × List It)) (GB : List Nat) (LL : List (Value × Value)) : Prop where
 len : LL.length = n
 at_ : ∀ i, i < n → ∃ g c, LL[i]? = some (.slice (some ⟨g, 0, none⟩) (C i).length c, .slice (some ⟨GB.getD i 0, 0, none⟩) (C i).length (C i).length) ∧ (g, C i) ∈ F
theorem ref_cells {B n i rb rf rc : Nat} {W w : World} {F : List (Nat × List It)} {GB : List Nat} {C : Nat → List It} {LL : List (Value × Value)} {r0 : List Item} (h : Foot B W w (queI B 2 (.slice (some ⟨rb, rf, none⟩) n rc) n (rcells LL) :: frozI F :: r0)) (hR : RefR C n F GB LL) (hi : i < n) :
  ∃ g c, w.cell? ⟨rb, rf + i * 2, none⟩ = some (.slice (some ⟨g, 0, none⟩) (C i).length c) ∧ w.cell? ⟨rb, rf + i * 2 + 1, none⟩ = some (.slice (some ⟨GB.getD i 0, 0, none⟩) (C i).length (C i).length) ∧ RowH w g (C i) := by
 obtain ⟨g, c, h1, h2⟩ := hR.at_ i hi
 have hq : ownsT w B 2 (.slice (some ⟨rb, rf, none⟩) n rc) n (rcells LL) := h.ok 0 _ rfl
 have hf : (frozI F).ok w := h.ok 1 _ rfl
 obtain ⟨hl, ⟨e, _⟩ | ⟨g', off, cap, e, _, _, _, _, h3, _⟩⟩ := hq
 ·cases e
 ·injection e with e1 e2 e3
  injection e1 with e1
  injection e1 with e1 e4
  subst e1
  subst e4
  obtain ⟨q0, q1⟩ := rcells_get h1
  exact ⟨g, c, h3 _ _ q0, by have := h3 _ _ q1; rw [← Nat.add_assoc] at this; exact this, hf _ h2⟩
theorem it_first {S : It} {ker : List It} {i : Nat} (h : ∀ j, j < i → ker[j]? ≠ some S) (hi : ker[i]? = some S) : ker.idxOf? S = some i := by
 obtain ⟨hl, he⟩ := List.getElem?_eq_some_iff.1 hi
 unfold List.idxOf?
 refine List.findIdx?_eq_some_iff_getElem.2 ⟨hl, by rw [he]; exact beq_self_eq_true _, fun j hj => ?_⟩
 intro hb
 have := beq_iff_eq.1 hb
 exact h j hj (by rw [List.getElem?_eq_getElem (by omega), this])
set_option maxRecDepth 100000 in
set_option maxHeartbeats 8000000 in
theorem Find_any {w : World} {v : Value} {l : List It} (x : It) (h : ItemsAt w v l) (hl : l.length ≤ 100000) : Calls Tryz.prog 48 #[v, itV x] w fun e w' => e = .returned (.int .i64 (findX l x)) ∧ Below w.heap.size w w' := by
 obtain ⟨xp, xd⟩ := x
 obtain ⟨o, c, rfl, hln, hix⟩ := h
 obtain ⟨N, hN⟩ : ∃ N, l.length = N := ⟨_, rfl⟩
 have HN := hid hN
 have HIX := hid hix
 obtain ⟨fv, hfv⟩ : ∃ fv, findX l (xp, xd) = fv := ⟨_, rfl⟩
 have HFV := hid hfv
 rw [hfv]
 rw [hN] at hl ⊢
 obtain ⟨W1, e1⟩ : ∃ W1, w.alloc (.cells #[.int .i64 xp, .int .i64 xd] 110) = W1 := ⟨_, rfl⟩
 have hb1 : Below w.heap.size w W1 := by rw [← e1]; exact (Below.refl _ _).alloc (Nat.le_refl _) _
 have n1 : W1.heap[w.heap.size]? = some (.cells #[.int .i64 xp, .int .i64 xd] 110 (0, 0)) := by rw [← e1]; exact new_block _ _
 have HB1 := hid hb1
 have HN1 := hid n1
 clear hix hN hln hb1 n1 hfv
 unfold itV
 go_enter Tryz.func48, Tryz.ntmps48
 go_wp2_with fail
 clear e1
 go_loopw [5] (fun t5 wr => ∃ k : Nat, k ≤ N ∧ t5 = .int .i64 (k : Int) ∧ (∀ (j : Nat) y, j < k → l[j]? = some y → y ≠ (xp, xd)) ∧ Hid (Below W1.heap.size W1 wr)) (fun t5 _ => N - (RowKit.intOf t5).toNat)
 case atStart => exact ⟨0, Nat.zero_le _, rfl, fun j y hj => absurd hj (Nat.not_lt_zero j), hid (Below.refl _ _)⟩
 case round =>
  obtain ⟨k, hkN, rfl, hno, HR⟩ := hrel
  have HNO := hid hno
  have HRB := hid (HB1.out.trans (HR.out.mono HB1.out.size))
  clear hno
  by_cases hlt : k < N
  ·have j1 : (k : Int) < (N : Int) := by omega
   have j0 : (0 : Int) ≤ (k : Int) := by omega
   obtain ⟨⟨yp, yd⟩, hy⟩ : ∃ y, l[k]? = some y := ⟨_, List.getElem?_eq_getElem (by rw [HN.out]; exact hlt)⟩
   obtain ⟨ib, jf, rfl, hx2⟩ := HIX.out (by rw [HN.out]; omega)
   have hxk : w.cell? ⟨ib, jf + k * 2, none⟩ = some (.int .i64 (l.getD k (0, 0)).1) ∧ w.cell? ⟨ib, jf + k * 2 + 1, none⟩ = some (.int .i64 (l.getD k (0, 0)).2) := hx2 k (by rw [HN.out]; exact hlt)
   rw [X14.getD_get hy] at hxk
   have Z0 := hid (show ∀ w', Below wr.heap.size wr w' → w'.cell? ⟨ib, jf + k * 2, none⟩ = some (.int .i64 yp) from fun w' hC => cell_below hC (cell_below HRB.out hxk.1))
   have Z1 := hid (show ∀ w', Below wr.heap.size wr w' → w'.cell? ⟨ib, jf + k * 2 + 1, none⟩ = some (.int .i64 yd) from fun w' hC => cell_below hC (cell_below HRB.out hxk.2))
   have Z2 := hid (show ∀ w', Below wr.heap.size wr w' → w'.cell? ⟨w.heap.size, 0, none⟩ = some (.int .i64 xp) from fun w' hC => cell_below hC (cell_below HR.out (Lib.cell_of_heap HN1.out 0)))
   have Z3 := hid (show ∀ w', Below wr.heap.size wr w' → w'.cell? ⟨w.heap.size, 1, none⟩ = some (.int .i64 xd) from fun w' hC => cell_below hC (cell_below HR.out (Lib.cell_of_heap HN1.out 1)))
   have HY := hid hy
   clear hx2 hxk hy
   by_cases hyp : yp = xp
   case neg =>
    have HNE := hid (show ((yp, yd) : It) ≠ (xp, xd) from fun e => hyp (by injection e))
    go_wp2_with fail
    refine wp_region_below (by kernel_rfl) (by kernel_rfl) ?_
    iterate 6
     with_reducible refine BigFrame.wpQuiet_want (by kernel_rfl) (fun K hK => ?_)
     apply Exists.intro
     refine ⟨fun w' hC => ?_, hK _ ?_⟩
     ·have f0' := Z0.out w' hC
      have f1' := Z1.out w' hC
      have f2' := Z2.out w' hC
      have f3' := Z3.out w' hC
      unfold Oper.quietAt
      go_simp
      first | with_reducible rfl | done
     clear hK K
     try simp only [Act.put, sjA, sj0, sjS]
    refine wpQuiet_nil ?_
    intro w9 hb9
    have HF9 := hid (HR.out.trans (hb9.mono HR.out.size))
    clear hb9
    go_wp2_with fail
    refine ⟨⟨k + 1, by omega, by go_num, fun j y hj hjy => ?_, HF9⟩, ?_⟩
    ·rcases Nat.lt_or_ge j k with e | e
     ·exact HNO.out j y e hjy
     ·obtain rfl : j = k := by omega
      rw [HY.out] at hjy
      obtain rfl := Option.some.inj hjy
      exact HNE.out
    ·simp [RowKit.intOf]
     omega
   subst hyp
   by_cases hyd : yd = xd
   case neg =>
    have HNE := hid (show ((yp, yd) : It) ≠ (yp, xd) from fun e => hyd (by injection e))
    go_wp2_with fail
    refine wp_region_below (by kernel_rfl) (by kernel_rfl) ?_
    iterate 6
     with_reducible refine BigFrame.wpQuiet_want (by kernel_rfl) (fun K hK => ?_)
     apply Exists.intro
     refine ⟨fun w' hC => ?_, hK _ ?_⟩
     ·have f0' := Z0.out w' hC
      have f1' := Z1.out w' hC
      have f2' := Z2.out w' hC
      have f3' := Z3.out w' hC
      unfold Oper.quietAt
      go_simp
      first | with_reducible rfl | done
     clear hK K
     try simp only [Act.put, sjA, sj0, sjS]
    refine wpQuiet_nil ?_
    intro w9 hb9
    have HF9 := hid (HR.out.trans (hb9.mono HR.out.size))
    clear hb9
    go_wp2_with fail
    refine ⟨⟨k + 1, by omega, by go_num, fun j y hj hjy => ?_, HF9⟩, ?_⟩
    ·rcases Nat.lt_or_ge j k with e | e
     ·exact HNO.out j y e hjy
     ·obtain rfl : j = k := by omega
      rw [HY.out] at hjy
      obtain rfl := Option.some.inj hjy
      exact HNE.out
    ·simp [RowKit.intOf]
     omega
   subst hyd
   have hfk : fv = (k : Int) := by
    rw [← HFV.out]
    unfold findX
    have hk : l.idxOf? (yp, yd) = some k := it_first (fun j hj e => HNO.out j _ hj e rfl) HY.out
    rw [hk]
   subst hfk
   go_wp2_with fail
   refine wp_region_below (by kernel_rfl) (by kernel_rfl) ?_
   iterate 6
    with_reducible refine BigFrame.wpQuiet_want (by kernel_rfl) (fun K hK => ?_)
    apply Exists.intro
    refine ⟨fun w' hC => ?_, hK _ ?_⟩
    ·have f0' := Z0.out w' hC
     have f1' := Z1.out w' hC
     have f2' := Z2.out w' hC
     have f3' := Z3.out w' hC
     unfold Oper.quietAt
     go_simp
     first | with_reducible rfl | done
    clear hK K
    try simp only [Act.put, sjA, sj0, sjS]
   refine wpQuiet_nil ?_
   intro w9 hb9
   have HF9 := hid (HR.out.trans (hb9.mono HR.out.size))
   clear hb9
   go_wp2_with fail
   go_ret
   exact ⟨rfl, HB1.out.trans (HF9.out.mono HB1.out.size)⟩
  ·have j1 : ¬ (k : Int) < (N : Int) := by omega
   have hfk : fv = -1 := by
    rw [← HFV.out]
    unfold findX
    cases e : l.idxOf? (xp, xd) with
    | none => rfl
    | some j =>
     obtain ⟨hj, hp, _⟩ := List.findIdx?_eq_some_iff_getElem.1 e
     have h1 : l[j]? = some (xp, xd) := by rw [List.getElem?_eq_getElem hj, beq_iff_eq.1 hp]
     exact absurd rfl (HNO.out j _ (by rw [HN.out] at hj; omega) h1)
   subst hfk
   go_wp2_with fail
   go_ret
   exact ⟨rfl, HRB.out⟩
end Go.Proofs.YticmnfmijdgmbaaGreatDoor

namespace Go.Proofs.X14
open Go.Proofs.YticmnfmijdgmbaaGreatDoor (GD PD validB)
set_option linter.unusedVariables false
theorem IsClose.of {G : GD} {l c : List It} (h1 : Rise c) (h2 : ∀ x ∈ c, InC G l x) (h3 : ∀ x ∈ l, thereX G x = true → x ∈ c) (h4 : ∀ x ∈ c, ∀ s, behX G x = some s → s < 0 → ∀ p, p < G.prods.length → sortX G p = -1 - s → ((p : Int), 0) ∈ c) : IsClose G l c :=
 ⟨h1, fun x => ⟨h2 x, fun hx => by
  induction hx with
  | base x hx ht => exact h3 x hx ht
  | more x s p hx hb hs hp he ih => exact h4 x ih s hb hs p hp he⟩⟩
def exG : GD := ⟨[⟨#[97]⟩], [], [⟨#[83]⟩], [⟨⟨#[112]⟩, 0, [0], 0⟩], 0⟩
theorem ex_beh0 : behX exG (-1, 0) = some (-1) := by decide
theorem ex_beh1 : behX exG (0, 0) = some 0 := by decide
theorem ex_c0 : closeX exG [(-1, 0)] = [(-1, 0), (0, 0)] := by
 refine (closeX_eq (IsClose.of ?_ ?_ ?_ ?_)).symm
 ·unfold Rise
  refine List.pairwise_cons.2 ⟨fun x hx => ?_, List.pairwise_singleton _ _⟩
  obtain rfl : x = (0, 0) := by simpa using hx
  exact .inl (by decide)
 ·intro x hx
  have h0 : InC exG [(-1, 0)] (-1, 0) := .base _ (by simp) (by decide)
  rcases List.mem_cons.1 hx with e | e
  ·rw [e]; exact h0
  ·obtain rfl : x = (0, 0) := by simpa using e
   exact .more _ (-1) 0 h0 ex_beh0 (by decide) (by decide) (by decide)
 ·intro x hx _
  obtain rfl : x = (-1, 0) := by simpa using hx
  simp
 ·intro x hx s hb hs p hp he
  obtain rfl : p = 0 := by have : p < 1 := hp; omega
  simp
theorem ex_c1 : closeX exG [(0, 1)] = [(0, 1)] := by
 refine (closeX_eq (IsClose.of (List.pairwise_singleton _ _) (fun x hx => .base x hx ?_) (fun x hx _ => hx) fun x hx s hb hs p hp he => ?_)).symm
 ·obtain rfl : x = (0, 1) := by simpa using hx
  decide
 ·obtain rfl : x = (0, 1) := by simpa using hx
  rw [show behX exG (0, 1) = none from by decide] at hb
  cases hb
theorem ex_c2 : closeX exG [(-1, 1)] = [(-1, 1)] := by
 refine (closeX_eq (IsClose.of (List.pairwise_singleton _ _) (fun x hx => .base x hx ?_) (fun x hx _ => hx) fun x hx s hb hs p hp he => ?_)).symm
 ·obtain rfl : x = (-1, 1) := by simpa using hx
  decide
 ·obtain rfl : x = (-1, 1) := by simpa using hx
  rw [show behX exG (-1, 1) = none from by decide] at hb
  cases hb
theorem ex_i1 : (iterB exG 1).ker = [[(-1, 0)], [(0, 1)], [(-1, 1)]] ∧ (iterB exG 1).nx = [[1, 2]] := by
 obtain ⟨h1, h2⟩ := iter_succ exG 0
 have e : (iterB exG 0).ker.getD 0 [] = [(-1, 0)] := rfl
 rw [e, ex_c0] at h1 h2
 exact ⟨h1.trans (by decide), h2.trans (by decide)⟩
theorem ex_i2 : (iterB exG 2).ker = [[(-1, 0)], [(0, 1)], [(-1, 1)]] ∧ (iterB exG 2).nx = [[1, 2], [-1, -1]] := by
 obtain ⟨h1, h2⟩ := iter_succ exG 1
 have e : (iterB exG 1).ker.getD 1 [] = [(0, 1)] := by rw [ex_i1.1]; rfl
 rw [e, ex_c1, ex_i1.1] at h1 h2
 rw [ex_i1.2] at h2
 exact ⟨h1.trans (by decide), h2.trans (by decide)⟩
theorem ex_i3 : (iterB exG 3).ker = [[(-1, 0)], [(0, 1)], [(-1, 1)]] ∧ (iterB exG 3).nx = [[1, 2], [-1, -1], [-1, -1]] := by
 obtain ⟨h1, h2⟩ := iter_succ exG 2
 have e : (iterB exG 2).ker.getD 2 [] = [(-1, 1)] := by rw [ex_i2.1]; rfl
 rw [e, ex_c2, ex_i2.1] at h1 h2
 rw [ex_i2.2] at h2
 exact ⟨h1.trans (by decide), h2.trans (by decide)⟩
theorem ex_ok : BuiltOk exG 3 := by
 refine ⟨⟨fun m hm => ?_, fun m hm => ?_⟩, by rw [ex_i3.1]; decide⟩
 ·have : m = 0 ∨ m = 1 ∨ m = 2 := by omega
  rcases this with rfl | rfl | rfl
  ·show 0 < 1; omega
  ·rw [ex_i1.1]; decide
  ·rw [ex_i2.1]; decide
 ·have : m = 0 ∨ m = 1 ∨ m = 2 := by omega
  rcases this with rfl | rfl | rfl
  ·rw [ex_i1.1]; decide
  ·rw [ex_i2.1]; decide
  ·rw [ex_i3.1]; decide
theorem ex_valid : validB exG = true := by decide
end Go.Proofs.X14
namespace Go.Proofs.YticmnfmijdgmbaaGreatDoor
open Go Go.RowKit Go.Lib
open X14 (It exG)
set_option linter.unusedVariables false
set_option linter.unusedSimpArgs false
theorem ex_build {w w' : World} {e : Ending} (h : BuildP exG w e w') : Below w.heap.size w w' ∧ ∃ av, e = .returned (.tuple #[av, .int .i64 0]) ∧ AutAt w' av [[(-1, 0)], [(0, 1)], [(-1, 1)]] [[1, 2], [-1, -1], [-1, -1]] := by
 obtain ⟨hb, h | ⟨_, n, h | ⟨h, av, e1, h2⟩⟩⟩ := h
 ·rw [X14.ex_valid] at h
  cases h.1
 ·exact (X14.Built.not X14.ex_ok h.1).elim
 ·obtain rfl := X14.Built.one h X14.ex_ok
  rw [X14.ex_i3.1, X14.ex_i3.2] at h2
  exact ⟨hb, av, e1, h2⟩
end Go.Proofs.YticmnfmijdgmbaaGreatDoor

namespace Go.Proofs.YticmnfmijdgmbaaGreatDoor.S13
open X14 (It exG)
set_option linter.unusedVariables false
set_option linter.unusedSimpArgs false
namespace X15
open X14 (rightX behX sortX closeX stepX iterB BuiltOk symsX InC thereX)
theorem ex_C {E : List Bool} {F : List Nat} {i : Nat} (hi : i < 3) : (cxB exG 3 E F).C i = [[((-1 : Int), (0 : Int)), (0, 0)], [(0, 1)], [(-1, 1)]].getD i [] := by
 show closeX exG ((iterB exG 3).ker.getD i []) = _
 rw [X14.ex_i3.1]
 have : i = 0 ∨ i = 1 ∨ i = 2 := by omega
 rcases this with rfl | rfl | rfl
 ·exact X14.ex_c0
 ·exact X14.ex_c1
 ·exact X14.ex_c2
theorem ex_to {E : List Bool} {F : List Nat} : (cxB exG 3 E F).to 0 0 = 1 ∧ (cxB exG 3 E F).to 0 (-1) = 2 := by
 refine ⟨?_, ?_⟩
 ·show (goX exG (iterB exG 3).nx 0 0).toNat = 1
  rw [X14.ex_i3.2]; decide
 ·show (goX exG (iterB exG 3).nx 0 (-1)).toNat = 2
  rw [X14.ex_i3.2]; decide
theorem ex_sort {x : It} {s : Int} (h : behX exG x = some s) (hs : s < 0) : restX exG x = [] := by
 obtain ⟨h1, h2, h3, h4⟩ := X14.there_iff.1 (X14.beh_there h)
 obtain ⟨p, d⟩ := x
 have hp : p = -1 ∨ p = 0 := by have e : exG.prods.length = 1 := rfl; simp only [e] at h2; show p = -1 ∨ p = 0; have h1 : -1 ≤ p := h1; have h2 : p < ((1 : Nat) : Int) := h2; omega
 have h3 : 0 ≤ d := h3
 have hr : ∀ q : Int, q = -1 ∨ q = 0 → (rightX exG q).length = 1 := fun q hq => by rcases hq with rfl | rfl <;> decide
 unfold restX
 rw [List.drop_eq_nil_iff]
 show (rightX exG p).length ≤ d.toNat + 1
 rw [hr p hp]
 omega
theorem ex_A {E : List Bool} {F : List Nat} {A : Pl → Nat} (h : LeastA (askX (cxB exG 3 E F)) (places (cxB exG 3 E F) 3) (0, (-1, 0)) (bitN 63) A) : A (1, (0, 1)) = bitN 63 := by
 refine sub_antisymm ?_ ?_
 ·refine h.least (fun _ => bitN 63) (fun p hp e he => ?_) (sub_refl _) _ (mem_places.2 ⟨by omega, by rw [ex_C (by omega)]; simp⟩)
  cases hb : behX exG p.2 with
  | none => rw [askX_none (show behX (cxB exG 3 E F).G p.2 = none from hb)] at he; cases he
  | some s =>
   rw [askX_some (show behX (cxB exG 3 E F).G p.2 = some s from hb)] at he
   rcases List.mem_cons.1 he with e1 | e1
   ·subst e1; exact sub_refl _
   ·by_cases hs : s < 0
    ·rw [if_pos hs] at e1
     obtain ⟨q, h3, h4, rfl⟩ := needX_mem.1 e1
     have hr : restX (cxB exG 3 E F).G p.2 = [] := ex_sort hb hs
     unfold fstX nulX
     rw [hr]
     show Sub (0 ||| bitN 63) (bitN 63)
     rw [Nat.zero_or]
     exact sub_refl _
    ·rw [if_neg hs] at e1; cases e1
 ·have hc0 : ((-1 : Int), (0 : Int)) ∈ (cxB exG 3 E F).C 0 := by rw [ex_C (by omega)]; simp
  have hc1 : ((0 : Int), (0 : Int)) ∈ (cxB exG 3 E F).C 0 := by rw [ex_C (by omega)]; simp
  have h1 := h.more (s := -1) (q := 0) (by omega) hc0 X14.ex_beh0 (by omega) (show 0 < exG.prods.length by decide) (show sortX exG 0 = -1 - -1 by decide)
  have hr : restX (cxB exG 3 E F).G ((-1 : Int), (0 : Int)) = [] := ex_sort X14.ex_beh0 (by omega)
  rw [hr] at h1
  have h2 := h.goto_ (s := 0) (by omega) hc1 X14.ex_beh1
  rw [ex_to.1] at h2
  exact sub_trans h.start (sub_trans h1 h2)
def cntW (l : List It) : Nat := (l.filter fun x => decide (x.1 = -1)).length
def cntS (C : Nat → List It) (n : Nat) : Nat := ((List.range n).map fun i => cntW (C i)).sum
theorem cntW_snoc (l : List It) (x : It) : cntW (l ++ [x]) = cntW l + (if x.1 = -1 then 1 else 0) := by
 unfold cntW
 rw [List.filter_append, List.length_append]
 by_cases h : x.1 = -1 <;> simp [h]
theorem cntW_take {l : List It} {k : Nat} {x : It} (h : l[k]? = some x) : cntW (l.take (k + 1)) = cntW (l.take k) + (if x.1 = -1 then 1 else 0) := by
 have : l.take (k + 1) = l.take k ++ [x] := by rw [List.take_add_one, h]; rfl
 rw [this, cntW_snoc]
theorem cntS_succ (C : Nat → List It) (n : Nat) : cntS C (n + 1) = cntS C n + cntW (C n) := by
 unfold cntS
 rw [List.range_succ, List.map_append, List.sum_append]
 simp
end X15
end Go.Proofs.YticmnfmijdgmbaaGreatDoor.S13
