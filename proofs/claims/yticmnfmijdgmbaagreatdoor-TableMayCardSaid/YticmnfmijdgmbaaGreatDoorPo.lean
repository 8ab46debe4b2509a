/- The walk of TableMay. -/
import Derived.Test.YticmnfmijdgmbaaGreatDoorGb
import Derived.Test.YticmnfmijdgmbaaGreatDoorZt
import Derived.Test.YticmnfmijdgmbaaGreatDoorYa
import Derived.Below
import Derived.ChangeSame
namespace Go.Proofs.YticmnfmijdgmbaaGreatDoor
open Go Go.RowKit Go.Lib
open X14 (It exG closeX iterB BuiltOk BuiltMany rightX behX sortX)
open S13 (u64 bitN top E0 F0 Sub hasN)
open S16
open S13.X15 (Pl LeastA askX places cxB)
set_option linter.unusedVariables false
set_option linter.unusedSimpArgs false
theorem may_bit (D : Nat → List It) (m : Nat) : ∀ (j b : Nat), (mayX D m j).testBit b = true ↔ ∃ k, k < j ∧ D k ≠ [] ∧ (b : Int) = (if k + 1 = m then 63 else (k : Int)) ∧ b < 64
 | 0, b => by
  unfold mayX
  rw [Nat.zero_testBit]
  exact ⟨fun h => (by cases h), fun ⟨k, h, _⟩ => absurd h (Nat.not_lt_zero k)⟩
 | j + 1, b => by
  have ih := may_bit D m j b
  unfold mayX
  by_cases hD : D j = []
  ·rw [if_pos hD, ih]
   constructor
   ·rintro ⟨k, h1, h2⟩; exact ⟨k, by omega, h2⟩
   ·rintro ⟨k, h1, h2, h3⟩
    by_cases e : k = j
    ·subst e; exact absurd hD h2
    ·exact ⟨k, by omega, h2, h3⟩
  ·rw [if_neg hD, Nat.testBit_or, Bool.or_eq_true, ih, S13.testBit_bitN, decide_eq_true_iff]
   constructor
   ·rintro (⟨k, h1, h2⟩ | ⟨h1, h2, h3⟩)
    ·exact ⟨k, by omega, h2⟩
    ·exact ⟨j, by omega, hD, h3, by omega⟩
   ·rintro ⟨k, h1, h2, h3, h4⟩
    by_cases e : k = j
    ·subst e; right; exact ⟨by omega, by omega, h3⟩
    ·exact .inl ⟨k, by omega, h2, h3, h4⟩
theorem may_has {D : Nat → List It} {T k : Nat} (hT : T ≤ 60) (hk : k < T) : hasN (mayX D (T + 1) (T + 1)) (k : Int) = !(D k).isEmpty := by
 rw [Bool.eq_iff_iff, has_bit _ (by omega) (by omega), Int.toNat_natCast, may_bit]
 cases hd : D k with
 | nil =>
  refine ⟨fun ⟨j, h1, h2, h3, _⟩ => ?_, fun h => (by cases h)⟩
  split at h3
  ·omega
  ·obtain rfl : k = j := by omega
   exact absurd hd h2
 | cons x l => exact ⟨fun _ => rfl, fun _ => ⟨k, by omega, by rw [hd]; simp, by rw [if_neg (by omega)], by omega⟩⟩
theorem may_end {D : Nat → List It} {T : Nat} (hT : T ≤ 60) : hasN (mayX D (T + 1) (T + 1)) 63 = !(D T).isEmpty := by
 rw [Bool.eq_iff_iff, has_bit _ (by omega) (by omega), show (63 : Int).toNat = 63 from rfl, may_bit]
 cases hd : D T with
 | nil =>
  refine ⟨fun ⟨j, h1, h2, h3, _⟩ => ?_, fun h => (by cases h)⟩
  split at h3
  ·obtain rfl : j = T := by omega
   exact absurd hd h2
  ·omega
 | cons x l => exact ⟨fun _ => rfl, fun _ => ⟨T, by omega, by rw [hd]; simp, by rw [if_pos rfl]; rfl, by omega⟩⟩
theorem head_kind {G : GD} {n : Nat} {A : Pl → Nat} (hV : validB G = true) (hO : BuiltOk G n) {i k : Nat} (hi : i < n) (hk : k ≤ G.terms.length) : (((dS G n A i k).headD (0, 0)).1 != 0) = !(dS G n A i k).isEmpty := by
 cases hd : dS G n A i k with
 | nil => rfl
 | cons x l =>
  have hm : x ∈ dS G n A i k := by rw [hd]; exact List.mem_cons_self
  show (x.1 != 0) = true
  rcases (mem_deeds (D := dS G n A) hV hO hi hk).1 hm with ⟨_, _, rfl⟩ | ⟨p, _, _, rfl⟩
  ·rfl
  ·split <;> rfl
section
open LR
variable {M : Mach} {t : Int}
theorem nul_act (hM : LR.Ok M) {s : Int} (h : LR.Nul M s) : ∀ {i : Nat} {p : Int} {d : Nat}, M.C i p d → (M.rt p)[d]? = some s → LR.Fol M i p d t → M.act i t ≠ .wrong := by
 induction h with
 | mk q hq hs ih =>
  intro i p d hc hsy hf
  have h0 := hf.lk hc hsy hq
  cases hr : M.rt q with
  | nil => rw [hM.a_red i q t (by rw [hr]; exact h0) hq]; simp
  | cons x l =>
   have g1 : (M.rt q)[0]? = some x := by rw [hr]; rfl
   exact ih x (by rw [hr]; exact List.mem_cons_self) (h0.c hM) g1 (.inr ⟨fun s hs2 => hs s (List.mem_of_mem_drop hs2), h0⟩)
theorem fst_act (hM : LR.Ok M) {l : List Int} (h : LR.Fst M l t) : ∀ {i : Nat} {p : Int} {d : Nat}, M.C i p d → (M.rt p).drop d = l → M.act i t ≠ .wrong := by
 induction h with
 | head t l h0 =>
  intro i p d hc he
  obtain ⟨g1, _⟩ := LR.get_drop he
  rw [hM.a_shift i t p d hc g1 h0]; simp
 | sort q l t hq hf ih =>
  intro i p d hc he
  obtain ⟨g1, _⟩ := LR.get_drop he
  exact ih (hM.more i p d q hc g1 hq) rfl
 | skip s l t hn hf ih =>
  intro i p d hc he
  obtain ⟨g1, g2⟩ := LR.get_drop he
  exact nul_act hM hn hc g1 (.inl (by rw [g2]; exact hf))
theorem fst_app {l m : List Int} (h : LR.Fst M l t) : LR.Fst M (l ++ m) t := by
 induction h with
 | head t l h => exact .head t _ h
 | sort q l t h hf _ => exact .sort q _ t h hf
 | skip s l t h hf ih => exact .skip s _ t h ih
theorem some_act (hM : LR.Ok M) (hL : LR.Live M) {i : Nat} {p : Int} {d : Nat} (hc : M.C i p d) (hd : d ≤ (M.rt p).length) (hk : ∃ t, LR.Lk M i p d t) : ∃ t, M.act i t ≠ .wrong := by
 obtain ⟨t, hk⟩ := hk
 cases hr : (M.rt p).drop d with
 | nil =>
  have hl := List.drop_eq_nil_iff.1 hr
  obtain rfl : d = (M.rt p).length := by omega
  rcases hM.isp i p _ hc with rfl | hp
  ·refine ⟨t, ?_⟩
   rw [hM.a_acc i t (by rw [hM.rt1] at hk; exact hk)]; simp
  ·exact ⟨t, by rw [hM.a_red i p t hk hp]; simp⟩
 | cons s l =>
  obtain ⟨g1, g2⟩ := LR.get_drop hr
  obtain ⟨y, hy⟩ := hL p d s g1
  cases y with
  | cons a y =>
   have := fst_app (m := l) (hy.fst rfl)
   exact ⟨a, fst_act hM this hc (by rw [hr]; rfl)⟩
  | nil =>
   have hn := hy.nul rfl s List.mem_cons_self
   obtain ⟨z, hz⟩ := LR.live_row (p := p) hL l (fun s hs => by rw [← g2] at hs; exact List.mem_of_mem_drop hs)
   cases z with
   | cons a z => exact ⟨a, nul_act hM hn hc g1 (.inl (by rw [g2]; exact hz.fst rfl))⟩
   | nil => exact ⟨t, nul_act hM hn hc g1 (.inr ⟨by rw [g2]; exact hz.nul rfl, hk⟩)⟩
end
theorem live_of {G : GD} {n : Nat} {D : Nat → Nat → List It} (hV : validB G = true) {L : List Bool} (h : S13.Reach true G.prods (List.replicate G.sorts.length false) L) : ∀ s : Int, S13.isK true L s = true → ∃ y, LR.Der (mG G n D) [s] y := by
 induction h with
 | refl =>
  intro s hs
  unfold S13.isK at hs
  split at hs
  ·rw [List.getD_eq_getElem?_getD, List.getElem?_replicate] at hs
   split at hs <;> simp at hs
  ·exact ⟨[s], .term s [] [] (by omega) .nil⟩
 | step hr hp ih =>
  rename_i L p
  intro s hs
  by_cases hs0 : s < 0
  ·unfold S13.isK at hs
   rw [if_pos hs0] at hs
   unfold S13.stepB at hs
   rw [List.getD_eq_getElem?_getD, List.getElem?_set] at hs
   have old : L.getD (-1 - s).toNat false = true → ∃ y, LR.Der (mG G n D) [s] y := fun h => ih s (by unfold S13.isK; rw [if_pos hs0]; exact h)
   split at hs
   ·rename_i e
    split at hs
    ·rw [Option.getD_some, Bool.or_eq_true] at hs
     rcases hs with hs | hs
     ·exact old (by rw [← e]; exact hs)
     ·obtain ⟨q, hq⟩ := List.mem_iff_getElem?.1 hp
      have h0 := (row_of hV hq).1
      have e2 : s = -1 - p.sort := by omega
      have key : ∀ l : List Int, (∀ x ∈ l, ∃ y, LR.Der (mG G n D) [x] y) → ∃ y, LR.Der (mG G n D) l y := by
       intro l
       induction l with
       | nil => exact fun _ => ⟨[], .nil⟩
       | cons a l ihl =>
        intro hl
        obtain ⟨x, hx⟩ := hl a List.mem_cons_self
        obtain ⟨y, hy⟩ := ihl fun z hz => hl z (List.mem_cons_of_mem _ hz)
        exact ⟨x ++ y, LR.Der.app (l := [a]) hx hy⟩
      obtain ⟨y, hy⟩ := key p.rs fun x hx => ih x (List.all_eq_true.1 hs x hx)
      refine ⟨y ++ [], ?_⟩
      rw [e2, ← srt_at (n := n) (D := D) hq]
      exact .sort (q : Int) [] y [] (isp_at hq) (by rw [rt_at hq]; exact hy) .nil
    ·cases hs
   ·exact old (by rw [List.getD_eq_getElem?_getD]; exact hs)
  ·exact ⟨[s], .term s [] [] (by omega) .nil⟩
theorem may_some {G : GD} {n : Nat} {A : Pl → Nat} (hV : validB G = true) (hO : BuiltOk G n) (hL : LA G n A) (hno : clX (cntS (dS G n A)) (G.terms.length + 1) n = []) {L : List Bool} (hLv : S13.Least true G.prods G.sorts.length L) (hlive : ∀ j, j < G.sorts.length → L.getD j false = true) {i : Nat} (hi : i < n) :
  mayX (dS G n A i) (G.terms.length + 1) (G.terms.length + 1) ≠ 0 := by
 have hM := machine_ok hV hO hL (fun i k hi hk => clX_none hno i k hi (by omega))
 have hLive : LR.Live (mG G n (dS G n A)) := fun p d s hs => by
  by_cases h0 : 0 ≤ s
  ·exact ⟨[s], .term s [] [] h0 .nil⟩
  ·refine live_of hV hLv.1 s ?_
   unfold S13.isK
   rw [if_pos (by omega)]
   have hr : (mG G n (dS G n A)).rt p = rightX G p := rfl
   have key : ∃ p' : Int, -1 ≤ p' ∧ p' < (G.prods.length : Int) ∧ s ∈ rightX G p' := by
    rw [hr] at hs
    by_cases hp1 : p = -1
    ·exact ⟨-1, by omega, by omega, hp1 ▸ List.mem_of_getElem? hs⟩
    ·by_cases hp : p.toNat < G.prods.length
     ·refine ⟨(p.toNat : Int), by omega, by omega, ?_⟩
      have hm := List.mem_of_getElem? hs
      unfold X14.rightX at hm ⊢
      rw [if_neg hp1] at hm
      rw [if_neg (by omega), Int.toNat_natCast]
      exact hm
     ·have hz : rightX G p = [] := by
       unfold X14.rightX
       rw [if_neg hp1, List.getD_eq_getElem?_getD, List.getElem?_eq_none (by omega)]
       rfl
      rw [hz] at hs
      cases hs
   obtain ⟨p', h1, h2, h3⟩ := key
   have := rt_ok hV p' h1 h2 s h3
   exact hlive _ (by omega)
 obtain ⟨σ, γ, hp⟩ := path_to (D := dS G n A) hO i hi
 obtain ⟨p, d, hc, _⟩ := path_item hO hp
 have hA := S13.X15.ahead_some hV hO (symOk hV) (S13.e0_least hV) hLv (S13.f0_least hV) hlive hL (i := i) (x := (p, (d : Int))) hi hc.2
 have hbit : ∃ b, (A (i, (p, (d : Int)))).testBit b = true := by
  refine Classical.byContradiction fun hn => hA (Nat.eq_of_testBit_eq fun b => ?_)
  rw [Nat.zero_testBit]
  exact Bool.eq_false_iff.2 fun h => hn ⟨b, h⟩
 obtain ⟨b, hb⟩ := hbit
 obtain ⟨t, ht⟩ := some_act hM hLive hc (c_there hc).2.2 ⟨_, lk_of hV hO hL hc hb⟩
 obtain ⟨hr, x, hx, _⟩ := act_some (D := dS G n A) (a := (mG G n (dS G n A)).act i t) rfl ht
 have h60 := (S13.valid_few hV).1
 intro h0
 have hk : colX G.terms.length t ≤ G.terms.length := by unfold colX; split <;> omega
 have hne : dS G n A i (colX G.terms.length t) ≠ [] := fun h => by rw [h] at hx; cases hx
 have hz : (if colX G.terms.length t + 1 = G.terms.length + 1 then (63 : Int) else (colX G.terms.length t : Int)) < 64 ∧ 0 ≤ (if colX G.terms.length t + 1 = G.terms.length + 1 then (63 : Int) else (colX G.terms.length t : Int)) := by split <;> omega
 have := (may_bit (dS G n A i) (G.terms.length + 1) (G.terms.length + 1) (if colX G.terms.length t + 1 = G.terms.length + 1 then (63 : Int) else (colX G.terms.length t : Int)).toNat).2 ⟨_, by omega, hne, by omega, by omega⟩
 rw [h0, Nat.zero_testBit] at this
 cases this
theorem U64s.at_ {w : World} {o : Option Addr} {n c : Nat} {us : List Nat} (h : U64s w (.slice o n c) us) {k : Nat} (hk : k < us.length) : ∃ b off, o = some ⟨b, off, none⟩ ∧ w.cell? ⟨b, off + k, none⟩ = some (u64 (us.getD k 0)) := by
 obtain ⟨o', c', e, _, hcs⟩ := h
 injection e with e1 e2 e3
 subst e1
 obtain ⟨b, off, rfl, hq⟩ := hcs (by omega)
 exact ⟨b, off, rfl, hq k hk⟩
set_option maxRecDepth 100000 in
set_option maxHeartbeats 16000000 in
theorem may16_walk {G : GD} {gv : Value} {w : World} {Bt : Nat} (h : Gram w gv G) (ht : Tab Bt w) (hBt : Bt ≤ w.heap.size) :
  Calls Tryz.prog 12 #[gv] w fun e w' => e = .returned (.bool true) ∧ Below w.heap.size w w' := by
 have HGr := hid h
 have HT := hid ht
 obtain ⟨tv, ov, sv, pv, tf, rv, h⟩ := h
 have HGA := hid h
 have hgv := h.eq
 subst hgv
 obtain ⟨W1, e1⟩ : ∃ W1, w.alloc (.cells #[tv, ov, sv, pv, .int .i64 G.start] 27) = W1 := ⟨_, rfl⟩
 have hb1 : Below w.heap.size w W1 := by rw [← e1]; exact (Below.refl _ _).alloc (Nat.le_refl _) _
 have n1 : W1.heap[w.heap.size]? = some (.cells #[tv, ov, sv, pv, .int .i64 G.start] 27 (0, 0)) := by rw [← e1]; exact new_block _ _
 have HB1 := hid hb1
 have HN1 := hid n1
 have KW := hid (works16_any W1 (ht.on (hb1.mono hBt)) (Nat.le_trans hBt hb1.size))
 clear h hb1 n1 ht
 go_enter Tryz.func12, Tryz.ntmps12
 go_wp2_with fail
 refine KW.out.mono ?_
 rintro e w2 ⟨rfl, hb2⟩
 have HB2 := hid (HB1.out.trans (hb2.mono HB1.out.size))
 have HN2 := hid ((hb2.block _ (Array.getElem?_eq_some_iff.1 HN1.out).1).trans HN1.out)
 have c0 : w2.cell? ⟨w.heap.size, 0, none⟩ = some (tv) := Lib.cell_of_heap HN2.out 0
 have c1 : w2.cell? ⟨w.heap.size, 1, none⟩ = some (ov) := Lib.cell_of_heap HN2.out 1
 have c2 : w2.cell? ⟨w.heap.size, 2, none⟩ = some (sv) := Lib.cell_of_heap HN2.out 2
 have c3 : w2.cell? ⟨w.heap.size, 3, none⟩ = some (pv) := Lib.cell_of_heap HN2.out 3
 have c4 : w2.cell? ⟨w.heap.size, 4, none⟩ = some (.int .i64 G.start) := Lib.cell_of_heap HN2.out 4
 have KF := hid (Little_any (HGr.out.below HB2.out))
 clear hb2 KW e1
 go_wp2_with fail
 refine KF.out.mono ?_
 rintro e w3 ⟨fw, rfl, hb3⟩
 have HB3 := hid (HB2.out.trans (hb3.mono HB2.out.size))
 have HN3 := hid ((hb3.block _ (Array.getElem?_eq_some_iff.1 HN2.out).1).trans HN2.out)
 clear hb3 KF c0 c1 c2 c3 c4
 cases fw
 ·go_wp2_with fail
  go_ret
  exact ⟨rfl, HB3.out⟩
 have c0 : w3.cell? ⟨w.heap.size, 0, none⟩ = some (tv) := Lib.cell_of_heap HN3.out 0
 have c1 : w3.cell? ⟨w.heap.size, 1, none⟩ = some (ov) := Lib.cell_of_heap HN3.out 1
 have c2 : w3.cell? ⟨w.heap.size, 2, none⟩ = some (sv) := Lib.cell_of_heap HN3.out 2
 have c3 : w3.cell? ⟨w.heap.size, 3, none⟩ = some (pv) := Lib.cell_of_heap HN3.out 3
 have c4 : w3.cell? ⟨w.heap.size, 4, none⟩ = some (.int .i64 G.start) := Lib.cell_of_heap HN3.out 4
 have KB := hid (BuildT_any (HGr.out.below HB3.out) (HT.out.on (HB3.out.mono hBt)) (Nat.le_trans hBt HB3.out.size))
 go_wp2_with fail
 refine KB.out.mono ?_
 rintro e w4 hbp
 obtain ⟨hb4, hcase⟩ := build_cases hbp
 have HB4 := hid (HB3.out.trans (hb4.mono HB3.out.size))
 have HN4 := hid ((hb4.block _ (Array.getElem?_eq_some_iff.1 HN3.out).1).trans HN3.out)
 clear KB c0 c1 c2 c3 c4 hbp
 rcases hcase with ⟨er, her, rfl⟩ | ⟨n, A, dv, nv, mv, hV, hO, hL, hno, rfl, htab⟩
 ·unfold zeroTab
  obtain ⟨Wz, ez⟩ : ∃ z, w4.alloc (.cells #[.slice none 0 0, .slice none 0 0, .slice none 0 0] 96) = z := ⟨_, rfl⟩
  have nez : Wz.heap[w4.heap.size]? = some (.cells #[.slice none 0 0, .slice none 0 0, .slice none 0 0] 96 (0, 0)) := by rw [← ez]; exact new_block _ _
  have xn0 : Wz.heap[w4.heap.size]? = some (.cells #[.slice none 0 0, .slice none 0 0, .slice none 0 0] 96 (0, 0)) := nez
  have xc0 : Wz.cell? ⟨w4.heap.size, 0, none⟩ = some (.slice none 0 0) := Lib.cell_of_heap xn0 0
  have xf0 := Lib.frozen_of_heap xn0 0
  obtain ⟨z1, xe0⟩ : ∃ z, Wz.setCell ⟨w4.heap.size, 0, none⟩ (.slice none 0 0) = z := ⟨_, rfl⟩
  have xn1 : z1.heap[w4.heap.size]? = some (.cells #[.slice none 0 0, .slice none 0 0, .slice none 0 0] 96 (0, 0)) := by rw [← xe0]; exact heap_setCell_same _ _ 0 _ 96 _ xn0
  have xc1 : z1.cell? ⟨w4.heap.size, 1, none⟩ = some (.slice none 0 0) := Lib.cell_of_heap xn1 1
  have xf1 := Lib.frozen_of_heap xn1 1
  obtain ⟨z2, xe1⟩ : ∃ z, z1.setCell ⟨w4.heap.size, 1, none⟩ (.slice none 0 0) = z := ⟨_, rfl⟩
  have xn2 : z2.heap[w4.heap.size]? = some (.cells #[.slice none 0 0, .slice none 0 0, .slice none 0 0] 96 (0, 0)) := by rw [← xe1]; exact heap_setCell_same _ _ 1 _ 96 _ xn1
  have xc2 : z2.cell? ⟨w4.heap.size, 2, none⟩ = some (.slice none 0 0) := Lib.cell_of_heap xn2 2
  have xf2 := Lib.frozen_of_heap xn2 2
  obtain ⟨z3, xe2⟩ : ∃ z, z2.setCell ⟨w4.heap.size, 2, none⟩ (.slice none 0 0) = z := ⟨_, rfl⟩
  have xn3 : z3.heap[w4.heap.size]? = some (.cells #[.slice none 0 0, .slice none 0 0, .slice none 0 0] 96 (0, 0)) := by rw [← xe2]; exact heap_setCell_same _ _ 2 _ 96 _ xn2
  have HBBx := hid (show Below w4.heap.size w4 z3 from by
   rw [← xe2, ← xe1, ← xe0, ← ez]
   exact ((((Below.refl _ _).alloc (Nat.le_refl _) _).setCell (Nat.le_refl _) _).setCell (Nat.le_refl _) _).setCell (Nat.le_refl _) _)
  have HNBx := hid xn3
  clear nez xn0 xn1 xn2 xn3
  rcases her with rfl | rfl | rfl
  ·go_wp2_with fail
   go_ret
   exact ⟨rfl, HB4.out.trans (HBBx.out.mono HB4.out.size)⟩
  ·go_wp2_with fail
   go_ret
   exact ⟨rfl, HB4.out.trans (HBBx.out.mono HB4.out.size)⟩
  ·go_wp2_with fail
   go_ret
   exact ⟨rfl, HB4.out.trans (HBBx.out.mono HB4.out.size)⟩
 have HTB := hid htab
 obtain ⟨dvo, dvc, nvo, nvc, mvo, mvc, rfl, rfl, rfl, ht1, ht2, ht3⟩ := tab_parts htab
 have HH := hid (show validB G = true ∧ BuiltOk G n ∧ LA G n A ∧ clX (cntS (dS G n A)) (G.terms.length + 1) n = [] from ⟨hV, hO, hL, hno⟩)
 have HTP := hid (And.intro ht1 (And.intro ht2 ht3))
 clear hV hO hL hno htab ht1 ht2 ht3
 obtain ⟨Wz, ez⟩ : ∃ z, w4.alloc (.cells #[.slice none 0 0, .slice none 0 0, .slice none 0 0] 96) = z := ⟨_, rfl⟩
 have nez : Wz.heap[w4.heap.size]? = some (.cells #[.slice none 0 0, .slice none 0 0, .slice none 0 0] 96 (0, 0)) := by rw [← ez]; exact new_block _ _
 have xn0 : Wz.heap[w4.heap.size]? = some (.cells #[.slice none 0 0, .slice none 0 0, .slice none 0 0] 96 (0, 0)) := nez
 have xc0 : Wz.cell? ⟨w4.heap.size, 0, none⟩ = some (.slice none 0 0) := Lib.cell_of_heap xn0 0
 have xf0 := Lib.frozen_of_heap xn0 0
 obtain ⟨z1, xe0⟩ : ∃ z, Wz.setCell ⟨w4.heap.size, 0, none⟩ (.slice dvo n dvc) = z := ⟨_, rfl⟩
 have xn1 : z1.heap[w4.heap.size]? = some (.cells #[.slice dvo n dvc, .slice none 0 0, .slice none 0 0] 96 (0, 0)) := by rw [← xe0]; exact heap_setCell_same _ _ 0 _ 96 _ xn0
 have xc1 : z1.cell? ⟨w4.heap.size, 1, none⟩ = some (.slice none 0 0) := Lib.cell_of_heap xn1 1
 have xf1 := Lib.frozen_of_heap xn1 1
 obtain ⟨z2, xe1⟩ : ∃ z, z1.setCell ⟨w4.heap.size, 1, none⟩ (.slice nvo n nvc) = z := ⟨_, rfl⟩
 have xn2 : z2.heap[w4.heap.size]? = some (.cells #[.slice dvo n dvc, .slice nvo n nvc, .slice none 0 0] 96 (0, 0)) := by rw [← xe1]; exact heap_setCell_same _ _ 1 _ 96 _ xn1
 have xc2 : z2.cell? ⟨w4.heap.size, 2, none⟩ = some (.slice none 0 0) := Lib.cell_of_heap xn2 2
 have xf2 := Lib.frozen_of_heap xn2 2
 obtain ⟨w5, xe2⟩ : ∃ z, z2.setCell ⟨w4.heap.size, 2, none⟩ (.slice mvo n mvc) = z := ⟨_, rfl⟩
 have xn3 : w5.heap[w4.heap.size]? = some (.cells #[.slice dvo n dvc, .slice nvo n nvc, .slice mvo n mvc] 96 (0, 0)) := by rw [← xe2]; exact heap_setCell_same _ _ 2 _ 96 _ xn2
 have HBBx := hid (show Below w4.heap.size w4 w5 from by
  rw [← xe2, ← xe1, ← xe0, ← ez]
  exact ((((Below.refl _ _).alloc (Nat.le_refl _) _).setCell (Nat.le_refl _) _).setCell (Nat.le_refl _) _).setCell (Nat.le_refl _) _)
 have HNBx := hid xn3
 clear nez xn0 xn1 xn2 xn3
 have HB5 := hid (HB4.out.trans (HBBx.out.mono HB4.out.size))
 have HN5 := hid ((HBBx.out.block _ (Array.getElem?_eq_some_iff.1 HN4.out).1).trans HN4.out)
 have HBX := hid (show ∀ w', Below w5.heap.size w5 w' → w'.cell? ⟨w4.heap.size, 0, none⟩ = some (.slice dvo n dvc) ∧ w'.cell? ⟨w4.heap.size, 1, none⟩ = some (.slice nvo n nvc) ∧ w'.cell? ⟨w4.heap.size, 2, none⟩ = some (.slice mvo n mvc) from fun w' hC => ⟨cell_below hC (Lib.cell_of_heap HNBx.out 0), cell_below hC (Lib.cell_of_heap HNBx.out 1), cell_below hC (Lib.cell_of_heap HNBx.out 2)⟩)
 obtain ⟨to_, tc, rfl, htn, _⟩ := HGA.out.terms
 obtain ⟨T, hT⟩ : ∃ T, G.terms.length = T := ⟨_, rfl⟩
 have HTL := hid hT
 have HT60 := hid (show T ≤ 60 from by have := (S13.valid_few HH.out.1).1; omega)
 have c0 : w5.cell? ⟨w.heap.size, 0, none⟩ = some (.slice to_ G.terms.length tc) := Lib.cell_of_heap HN5.out 0
 have c1 : w5.cell? ⟨w.heap.size, 1, none⟩ = some (ov) := Lib.cell_of_heap HN5.out 1
 have c2 : w5.cell? ⟨w.heap.size, 2, none⟩ = some (sv) := Lib.cell_of_heap HN5.out 2
 have c3 : w5.cell? ⟨w.heap.size, 3, none⟩ = some (pv) := Lib.cell_of_heap HN5.out 3
 have c4 : w5.cell? ⟨w.heap.size, 4, none⟩ = some (.int .i64 G.start) := Lib.cell_of_heap HN5.out 4
 obtain ⟨q0, q1, q2⟩ := HBX.out w5 (Below.refl _ _)
 have KL := hid (S13.Lives_any (HGA.out.mono HB5.out) HH.out.1)
 have hgv2 := HGA.out.eq
 rw [hT] at c0 hgv2 KL
 go_wp2_with fail
 refine KL.out.mono ?_
 rintro e w6 ⟨vb, L, rfl, hLv, hLh, hLs, hb6⟩
 have HLV := hid hLv
 have HB6 := hid (HB5.out.trans (hb6.mono HB5.out.size))
 have HN6 := hid ((hb6.block _ (Array.getElem?_eq_some_iff.1 HN5.out).1).trans HN5.out)
 have HX6 := hid hb6
 have HY6 := hid (HBBx.out.trans (hb6.mono HBBx.out.size))
 obtain ⟨ns, hns⟩ : ∃ ns, G.sorts.length = ns := ⟨_, rfl⟩
 have HNS := hid hns
 have HLC := hid (show ∀ i, i < ns → w6.cell? ⟨vb, i, none⟩ = some (.bool (L.getD i false)) from fun i hi => S13.cell_bools hLh (by rw [hLv.length, hns]; exact hi))
 have hns60 : ns ≤ 60 := by have := (S13.valid_few HH.out.1).2.1; omega
 rw [hns]
 clear xc0 xf0 xc1 xf1 xc2 xf2 xe0 xe1 xe2 ez hLv hLh hLs hb6 KL hns c0 c1 c2 c3 c4 q0 q1 q2 htn
 go_wp2_with fail
 go_loop [8, 9] (fun t8 t9 => ∃ (i : Nat) (b : Bool), i ≤ ns ∧ t9 = .int .i64 (i : Int) ∧ t8 = .bool b ∧ (b = true → ∀ j, j < i → L.getD j false = true)) (fun _ t9 => ns - (RowKit.intOf t9).toNat)
 case atStart => exact ⟨0, true, Nat.zero_le _, rfl, rfl, fun _ j hj => absurd hj (Nat.not_lt_zero j)⟩
 case round =>
  obtain ⟨i, b, hi, rfl, rfl, hall⟩ := hrel
  have HALL := hid hall
  clear hall
  by_cases hlt : i < ns
  ·have j1 : (i : Int) < (ns : Int) := by omega
   have j0 : (0 : Int) ≤ (i : Int) := by omega
   cases b
   ·go_wp2_with fail
    refine ⟨⟨i + 1, false, by omega, by go_num, rfl, fun h => by cases h⟩, ?_⟩
    simp [RowKit.intOf]
    omega
   ·have v0 := HLC.out i hlt
    obtain ⟨b, hb⟩ : ∃ b, L.getD i false = b := ⟨_, rfl⟩
    have HBB := hid hb
    rw [hb] at v0
    clear hb
    go_wp2_with fail
    refine ⟨⟨i + 1, b, by omega, by go_num, rfl, fun hb j hj => ?_⟩, ?_⟩
    ·rcases Nat.lt_or_ge j i with h | h
     ·exact HALL.out rfl j h
     ·obtain rfl : j = i := by omega
      exact HBB.out.trans hb
    ·simp [RowKit.intOf]
     omega
  ·have j1 : ¬ (i : Int) < (ns : Int) := by omega
   obtain rfl : i = ns := by omega
   have HNE := hid (show b = true → ∀ i, i < n → mayX (dS G n A i) (T + 1) (T + 1) ≠ 0 from fun hb i hi => by
    have := may_some HH.out.1 HH.out.2.1 HH.out.2.2.1 HH.out.2.2.2 HLV.out (fun j hj => HALL.out hb j (by rw [← HNS.out]; exact hj)) hi
    rw [HTL.out] at this
    exact this)
   clear HALL HLC
   obtain ⟨q0, q1, q2⟩ := HBX.out w6 HX6.out
   go_wp2_with fail
   clear q0 q1 q2
   go_loopw [10, 11] (fun t10 t11 wr => ∃ k : Nat, k ≤ n ∧ t10 = .int .i64 (k : Int) ∧ Hid (Below w6.heap.size w6 wr)) (fun t10 _ _ => n - (RowKit.intOf t10).toNat)
   case atStart => exact ⟨0, Nat.zero_le _, rfl, hid (Below.refl _ _)⟩
   case round =>
    obtain ⟨k, hk, rfl, HR⟩ := hrel
    obtain ⟨q0, q1, q2⟩ := HBX.out wr (HX6.out.trans (HR.out.mono HX6.out.size))
    by_cases hlk : k < n
    ·have m1 : (k : Int) < (n : Int) := by omega
     have m0 : (0 : Int) ≤ (k : Int) := by omega
     obtain ⟨mb, mf, rfl, mc⟩ := U64s.at_ HTP.out.2.2 (k := k) (by rw [List.length_map, List.length_range]; exact hlk)
     rw [List.getD_eq_getElem?_getD, List.getElem?_map, List.getElem?_range hlk, Option.map_some, Option.getD_some] at mc
     obtain ⟨db, df, u, rfl, dc, hu⟩ := HTP.out.1.at_ hlk
     obtain ⟨uo, uc, rfl, hul, hux⟩ := hu
     rw [onlyX_len] at hul hux dc
     obtain ⟨rb, rf, rfl, hrow⟩ := hux (by omega)
     rw [HTL.out] at hrow dc mc hul
     have HMC := hid mc
     have HDC := hid dc
     have HROW := hid (show ∀ j, j ≤ T → w4.cell? ⟨rb, rf + j * 2, none⟩ = some (.int .i64 ((dS G n A k j).headD (0, 0)).1) from fun j hj => by
      have := (hrow j (by omega)).1
      rw [List.getD_eq_getElem?_getD, onlyX_get (by omega), Option.getD_some, if_pos (by omega)] at this
      exact this)
     clear mc dc hrow hul hux
     go_wp2_with fail
     clear q0 q1 q2
     go_loopw [11] (fun t11 wq => ∃ j : Nat, j ≤ T ∧ t11 = .int .i64 (j : Int) ∧ Hid (Below w6.heap.size w6 wq)) (fun t11 _ => T - (RowKit.intOf t11).toNat)
     case atStart => exact ⟨0, Nat.zero_le _, rfl, HR⟩
     case round =>
      clear HR
      obtain ⟨j, hj, rfl, HR⟩ := hrel
      have c0 : wr.cell? ⟨w.heap.size, 0, none⟩ = some (.slice to_ T tc) := by
       have := cell_below HR.out (Lib.cell_of_heap HN6.out 0)
       rw [this, ← HTL.out]
       rfl
      have HY := hid (HY6.out.trans (HR.out.mono HY6.out.size))
      have Z0 := hid (show ∀ w', Below wr.heap.size wr w' → w'.cell? ⟨w4.heap.size, 2, none⟩ = some (.slice (some ⟨mb, mf, none⟩) n mvc) from fun w' hC => (HBX.out w' ((HX6.out.trans (HR.out.mono HX6.out.size)).trans (hC.mono (HX6.out.trans (HR.out.mono HX6.out.size)).size))).2.2)
      have Z1 := hid (show ∀ w', Below wr.heap.size wr w' → w'.cell? ⟨w4.heap.size, 0, none⟩ = some (.slice (some ⟨db, df, none⟩) n dvc) from fun w' hC => (HBX.out w' ((HX6.out.trans (HR.out.mono HX6.out.size)).trans (hC.mono (HX6.out.trans (HR.out.mono HX6.out.size)).size))).1)
      by_cases hlj : j < T
      ·have t60 := HT60.out
       have r1 : (j : Int) < (T : Int) := by omega
       have r3 : (j : Int) < ((T + 1 : Nat) : Int) := by omega
       have r0 : (0 : Int) ≤ (j : Int) := by omega
       have r2 : (j : Int) < (T : Int) + 1 := by omega
       obtain ⟨bb, hbb⟩ : ∃ bb, (!(dS G n A k j).isEmpty) = bb := ⟨_, rfl⟩
       have hh := head_kind HH.out.1 HH.out.2.1 (A := A) hlk (k := j) (by rw [HTL.out]; omega)
       have hm := may_has (D := dS G n A k) HT60.out hlj
       have Z2 := hid (show ∀ w', Below wr.heap.size wr w' → w'.cell? ⟨mb, mf + k, none⟩ = some (S13.u64 (mayX (dS G n A k) (T + 1) (T + 1))) from fun w' hC => cell_below hC (cell_below HY.out HMC.out))
       have Z3 := hid (show ∀ w', Below wr.heap.size wr w' → w'.cell? ⟨db, df + k, none⟩ = some (.slice (some ⟨rb, rf, none⟩) (T + 1) uc) from fun w' hC => cell_below hC (cell_below HY.out HDC.out))
       have Z4 := hid (show ∀ w', Below wr.heap.size wr w' → w'.cell? ⟨rb, rf + j * 2, none⟩ = some (.int .i64 ((dS G n A k j).headD (0, 0)).1) from fun w' hC => cell_below hC (cell_below HY.out (HROW.out j (by omega))))
       rw [hbb] at hh
       obtain ⟨av, hav⟩ : ∃ av, mayX (dS G n A k) (T + 1) (T + 1) = av := ⟨_, rfl⟩
       obtain ⟨hd, hhd⟩ : ∃ hd, ((dS G n A k j).headD (0, 0)).1 = hd := ⟨_, rfl⟩
       have hlt := mayX_lt (dS G n A k) (T + 1) (T + 1)
       rw [hav] at Z2 hm hlt
       rw [hhd] at hh Z4
       rw [hbb] at hm
       have KH := hid (show ∀ w', Below wr.heap.size wr w' → Calls Tryz.prog 33 #[S13.u64 av, .int .i64 (j : Int)] w' fun e w'' => e = .returned (.bool bb) ∧ Below w'.heap.size w' w'' from fun w' hC => (S13.Has_any av (j : Int) hlt w').mono fun e w'' ⟨h1, h2⟩ => ⟨by rw [h1, hm], by rw [← h2]; exact Below.refl _ _⟩)
       clear hav hhd hbb hm hlt
       cases bb
       ·have z0 : hd = 0 := by
         rw [bne_eq_false_iff_eq] at hh; exact hh
        subst z0
        clear hh
        go_wp2_with fail
        clear c0
        refine wp_region_below (by kernel_rfl) (by kernel_rfl) ?_
        iterate 18
         with_reducible refine BigFrame.wpQuiet_want (by kernel_rfl) (fun K hK => ?_)
         apply Exists.intro
         refine ⟨fun w' hC => ?_, hK _ ?_⟩
         ·have f0' := Z0.out w' hC
          have f1' := Z1.out w' hC
          have f2' := Z2.out w' hC
          have f3' := Z3.out w' hC
          have f4' := Z4.out w' hC
          unfold Oper.quietAt
          go_simp
          first | with_reducible rfl | with_reducible exact below_call hC (Nat.le_refl _) (KH.out w' hC)
         clear hK K
         try simp only [Act.put, sjA, sj0, sjS]
        refine wpQuiet_nil ?_
        intro w7 hb7
        have HR7 := hid (HR.out.trans (hb7.mono HR.out.size))
        clear hb7
        go_wp2_with fail
        refine ⟨⟨j + 1, by omega, by go_num, HR7⟩, ?_⟩
        simp [RowKit.intOf]
        omega
       ·have z0 : (hd == 0) = false := by
         rw [bne_iff_ne] at hh
         rw [beq_eq_false_iff_ne]; exact hh
        go_wp2_with fail
        clear c0
        refine wp_region_below (by kernel_rfl) (by kernel_rfl) ?_
        iterate 18
         with_reducible refine BigFrame.wpQuiet_want (by kernel_rfl) (fun K hK => ?_)
         apply Exists.intro
         refine ⟨fun w' hC => ?_, hK _ ?_⟩
         ·have f0' := Z0.out w' hC
          have f1' := Z1.out w' hC
          have f2' := Z2.out w' hC
          have f3' := Z3.out w' hC
          have f4' := Z4.out w' hC
          unfold Oper.quietAt
          go_simp
          first | with_reducible rfl | with_reducible exact below_call hC (Nat.le_refl _) (KH.out w' hC)
         clear hK K
         try simp only [Act.put, sjA, sj0, sjS]
        refine wpQuiet_nil ?_
        intro w7 hb7
        have HR7 := hid (HR.out.trans (hb7.mono HR.out.size))
        clear hb7
        go_wp2_with fail
        refine ⟨⟨j + 1, by omega, by go_num, HR7⟩, ?_⟩
        simp [RowKit.intOf]
        omega
      ·obtain rfl : j = T := by omega
       have j60 := HT60.out
       have n20 := built2 HH.out.2.1
       have r1 : ¬ (j : Int) < (j : Int) := by omega
       have r3 : (j : Int) < ((j + 1 : Nat) : Int) := by omega
       have r0 : (0 : Int) ≤ (j : Int) := by omega
       have r2 : (j : Int) < (j : Int) + 1 := by omega
       obtain ⟨bb, hbb⟩ : ∃ bb, (!(dS G n A k j).isEmpty) = bb := ⟨_, rfl⟩
       have hh := head_kind HH.out.1 HH.out.2.1 (A := A) hlk (k := j) (by rw [HTL.out]; omega)
       have hm := may_end (D := dS G n A k) HT60.out
       have Z2 := hid (show ∀ w', Below wr.heap.size wr w' → w'.cell? ⟨mb, mf + k, none⟩ = some (S13.u64 (mayX (dS G n A k) (j + 1) (j + 1))) from fun w' hC => cell_below hC (cell_below HY.out HMC.out))
       have Z3 := hid (show ∀ w', Below wr.heap.size wr w' → w'.cell? ⟨db, df + k, none⟩ = some (.slice (some ⟨rb, rf, none⟩) (j + 1) uc) from fun w' hC => cell_below hC (cell_below HY.out HDC.out))
       have Z4 := hid (show ∀ w', Below wr.heap.size wr w' → w'.cell? ⟨rb, rf + j * 2, none⟩ = some (.int .i64 ((dS G n A k j).headD (0, 0)).1) from fun w' hC => cell_below hC (cell_below HY.out (HROW.out j (by omega))))
       have Z5 := hid (show ∀ w', Below wr.heap.size wr w' → w'.cell? ⟨w.heap.size, 0, none⟩ = some (.slice to_ j tc) from fun w' hC => cell_below hC c0)
       have hne := fun hb => HNE.out hb k hlk
       rw [hbb] at hh
       obtain ⟨av, hav⟩ : ∃ av, mayX (dS G n A k) (j + 1) (j + 1) = av := ⟨_, rfl⟩
       obtain ⟨hd, hhd⟩ : ∃ hd, ((dS G n A k j).headD (0, 0)).1 = hd := ⟨_, rfl⟩
       have hlt := mayX_lt (dS G n A k) (j + 1) (j + 1)
       rw [hav] at Z2 hm hlt hne
       rw [hhd] at hh Z4
       rw [hbb] at hm
       have KH := hid (show ∀ w', Below wr.heap.size wr w' → Calls Tryz.prog 33 #[S13.u64 av, .int .i64 63] w' fun e w'' => e = .returned (.bool bb) ∧ Below w'.heap.size w' w'' from fun w' hC => (S13.Has_any av 63 hlt w').mono fun e w'' ⟨h1, h2⟩ => ⟨by rw [h1, hm], by rw [← h2]; exact Below.refl _ _⟩)
       clear hav hhd hbb hm hlt
       cases bb
       ·have z0 : hd = 0 := by
         rw [bne_eq_false_iff_eq] at hh; exact hh
        subst z0
        clear hh
        cases b
        ·clear hne
         go_wp2_with fail
         clear c0
         refine wp_region_below (by kernel_rfl) (by kernel_rfl) ?_
         iterate 30
          first
          | with_reducible refine BigFrame.wpQuiet_skip (by with_unfolding_all rfl) ?_
          | with_reducible refine BigFrame.wpQuiet_want (by kernel_rfl) (fun K hK => ?_)
            apply Exists.intro
            refine ⟨fun w' hC => ?_, hK _ ?_⟩
            ·have f0' := Z0.out w' hC
             have f1' := Z1.out w' hC
             have f2' := Z2.out w' hC
             have f3' := Z3.out w' hC
             have f4' := Z4.out w' hC
             have f5' := Z5.out w' hC
             unfold Oper.quietAt
             go_simp
             first | with_reducible rfl | with_reducible exact below_call hC (Nat.le_refl _) (KH.out w' hC)
            clear hK K
          try simp only [Act.put, sjA, sj0, sjS]
         refine wpQuiet_nil ?_
         intro w7 hb7
         have HR7 := hid (HR.out.trans (hb7.mono HR.out.size))
         clear hb7
         go_wp2_with fail
         refine ⟨⟨k + 1, by omega, by go_num, HR7⟩, ?_⟩
         simp [RowKit.intOf]
         omega
        ·have z1 : ((av : Int) == 0) = false := by
          have := hne rfl
          rw [beq_eq_false_iff_ne]; omega
         clear hne
         go_wp2_with fail
         clear c0
         refine wp_region_below (by kernel_rfl) (by kernel_rfl) ?_
         iterate 30
          with_reducible refine BigFrame.wpQuiet_want (by kernel_rfl) (fun K hK => ?_)
          apply Exists.intro
          refine ⟨fun w' hC => ?_, hK _ ?_⟩
          ·have f0' := Z0.out w' hC
           have f1' := Z1.out w' hC
           have f2' := Z2.out w' hC
           have f3' := Z3.out w' hC
           have f4' := Z4.out w' hC
           have f5' := Z5.out w' hC
           unfold Oper.quietAt
           go_simp
           first | with_reducible rfl | with_reducible exact below_call hC (Nat.le_refl _) (KH.out w' hC)
          clear hK K
          try simp only [Act.put, sjA, sj0, sjS]
         refine wpQuiet_nil ?_
         intro w7 hb7
         have HR7 := hid (HR.out.trans (hb7.mono HR.out.size))
         clear hb7
         go_wp2_with fail
         refine ⟨⟨k + 1, by omega, by go_num, HR7⟩, ?_⟩
         simp [RowKit.intOf]
         omega
       ·have z0 : (hd == 0) = false := by
         rw [bne_iff_ne] at hh
         rw [beq_eq_false_iff_ne]; exact hh
        cases b
        ·clear hne
         go_wp2_with fail
         clear c0
         refine wp_region_below (by kernel_rfl) (by kernel_rfl) ?_
         iterate 30
          first
          | with_reducible refine BigFrame.wpQuiet_skip (by with_unfolding_all rfl) ?_
          | with_reducible refine BigFrame.wpQuiet_want (by kernel_rfl) (fun K hK => ?_)
            apply Exists.intro
            refine ⟨fun w' hC => ?_, hK _ ?_⟩
            ·have f0' := Z0.out w' hC
             have f1' := Z1.out w' hC
             have f2' := Z2.out w' hC
             have f3' := Z3.out w' hC
             have f4' := Z4.out w' hC
             have f5' := Z5.out w' hC
             unfold Oper.quietAt
             go_simp
             first | with_reducible rfl | with_reducible exact below_call hC (Nat.le_refl _) (KH.out w' hC)
            clear hK K
          try simp only [Act.put, sjA, sj0, sjS]
         refine wpQuiet_nil ?_
         intro w7 hb7
         have HR7 := hid (HR.out.trans (hb7.mono HR.out.size))
         clear hb7
         go_wp2_with fail
         refine ⟨⟨k + 1, by omega, by go_num, HR7⟩, ?_⟩
         simp [RowKit.intOf]
         omega
        ·have z1 : ((av : Int) == 0) = false := by
          have := hne rfl
          rw [beq_eq_false_iff_ne]; omega
         clear hne
         go_wp2_with fail
         clear c0
         refine wp_region_below (by kernel_rfl) (by kernel_rfl) ?_
         iterate 30
          with_reducible refine BigFrame.wpQuiet_want (by kernel_rfl) (fun K hK => ?_)
          apply Exists.intro
          refine ⟨fun w' hC => ?_, hK _ ?_⟩
          ·have f0' := Z0.out w' hC
           have f1' := Z1.out w' hC
           have f2' := Z2.out w' hC
           have f3' := Z3.out w' hC
           have f4' := Z4.out w' hC
           have f5' := Z5.out w' hC
           unfold Oper.quietAt
           go_simp
           first | with_reducible rfl | with_reducible exact below_call hC (Nat.le_refl _) (KH.out w' hC)
          clear hK K
          try simp only [Act.put, sjA, sj0, sjS]
         refine wpQuiet_nil ?_
         intro w7 hb7
         have HR7 := hid (HR.out.trans (hb7.mono HR.out.size))
         clear hb7
         go_wp2_with fail
         refine ⟨⟨k + 1, by omega, by go_num, HR7⟩, ?_⟩
         simp [RowKit.intOf]
         omega
    ·have m1 : ¬ (k : Int) < (n : Int) := by omega
     go_wp2_with fail
     go_ret
     exact ⟨rfl, HB6.out.trans (HR.out.mono HB6.out.size)⟩
end Go.Proofs.YticmnfmijdgmbaaGreatDoor

namespace Go.Proofs.YticmnfmijdgmbaaGreatDoor
open Go Go.RowKit Go.WideShapes Go.ChangeShapes
theorem post_kept {H : Type} {enc : TypeId × Value → H} {P : Program} {f : Func} {s : ChangeSpec} {apart fresh handsOn again : Bool} {W W' : World} {args : Array Value} {v : Value} {ds gs : List (DataW H)} {before pa pv : List MemPlace}
  (hW : DataW.Whole enc P f.params.toList s.vars apart W args.toList ds gs before)
  (hres : ∀ (b : Nat) (sp : Nat → Bool) (hd : Bool), DataW.TrodAll enc P W' b sp hd f.resultTypes.toList (v.resultList f.resultTypes.size) (s.fn H (ds ++ gs)).results [])
  (hargs : ∀ sp : Nat → Bool, (∀ p ∈ before, sp p.block = true) → DataW.TrodAll enc P W' 0 sp true f.params.toList args.toList (s.fn H (ds ++ gs)).args pa)
  (hvars : ∀ sp : Nat → Bool, (∀ p ∈ before, sp p.block = true) → DataW.TrodVars enc P W' sp s.vars (s.fn H (ds ++ gs)).vars pv)
  (hps : before = pa ++ pv) (hb : Below W.heap.size W W')
  (hok : ∀ (j : Nat) (t : TypeId) (r : Value), f.resultTypes[j]? = some t → (v.resultList f.resultTypes.size)[j]? = some r → Value.okWide P W' .any 0 t r) :
  s.post enc P f apart fresh handsOn again W args v W' := by
 have old : ∀ p ∈ before, decide (p.block < W.heap.size) = true := fun p hp => decide_eq_true (hW.lt p hp)
 have inside : ∀ p, p ∈ pa ++ pv → p ∈ before := fun p hp => by rw [hps]; exact hp
 refine ⟨ds, gs, before, [], pa, pv, hW, hres _ _ _, hargs _ old, hvars _ old, World.keptBut_mono (fun p hp => ⟨hp, ?_⟩) (hb.frame (· ∈ before)), fun _ => ⟨hok, _, _, [] ++ pa ++ pv, ⟨[] ++ pa, pv, trodAll_append (hargs _ fun _ _ => rfl) (hres _ _ _), hvars _ fun _ _ => rfl, rfl, ?_, ?_⟩, ?_⟩⟩
 ·exact .inr (List.mem_append.1 (hps ▸ hp))
 ·intro b off hp
  have hW0 := hW
  obtain ⟨_, _, _, _, _, hz, _⟩ := hW
  have hin := inside _ (by simpa using hp)
  exact (hb.frozen (p := ⟨b, off, none⟩) (hW0.lt _ hin)).trans (hz b off hin)
 ·intro ha
  obtain ⟨_, _, _, _, _, _, hn⟩ := hW
  simpa [hps] using hn ha
 ·intro p hp _
  exact inside p (by simpa using hp)
end Go.Proofs.YticmnfmijdgmbaaGreatDoor
