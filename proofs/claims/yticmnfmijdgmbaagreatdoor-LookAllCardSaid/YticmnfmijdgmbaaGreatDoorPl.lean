/- The walk of LookAll. -/
import Derived.Test.YticmnfmijdgmbaaGreatDoorGb
import Derived.Test.YticmnfmijdgmbaaGreatDoorYi
import Derived.Test.YticmnfmijdgmbaaGreatDoorYk
import Derived.Test.YticmnfmijdgmbaaGreatDoorSx
import Derived.Test.YticmnfmijdgmbaaGreatDoorQKq
import Derived.Below
import Derived.ChangeSame
import Derived.Carry
import Derived.OpenShut
namespace Go.Proofs.YticmnfmijdgmbaaGreatDoor
open Go Go.RowKit Go.Lib
open X14 (It exG closeX iterB BuiltOk BuiltMany rightX behX sortX)
open S13 (u64 bitN top E0 F0 Sub hasN)
open S13.X15 (Pl LeastA askX places cxB stC)
set_option linter.unusedVariables false
set_option linter.unusedSimpArgs false
theorem all_shape {G : GD} {w w' : World} {e : Ending} (h : AllP G w e w') : ∃ lo ln lc er, e = .returned (.tuple #[.slice lo ln lc, .int .i64 er]) := by
 obtain ⟨_, ⟨_, h⟩ | ⟨_, n, ⟨_, h⟩ | ⟨_, v, A, e1, _, h3⟩⟩⟩ := h
 ·exact ⟨_, _, _, _, h⟩
 ·exact ⟨_, _, _, _, h⟩
 ·obtain ⟨o, c, rfl, _⟩ := h3
  exact ⟨_, _, _, _, e1⟩
theorem rall_shape {G : GD} {w w' : World} {e : Ending} (h : RAllP G w e w') : ∃ lo ln lc ko kn kc no nn nc er, e = .returned (.tuple #[.slice lo ln lc, .agg #[.slice ko kn kc, .slice no nn nc], .int .i64 er]) := by
 obtain ⟨_, ⟨er, _, h⟩ | ⟨_, n, _, v, ko, kn, kc, no, nn, nc, A, e1, _, h3⟩⟩ := h
 ·exact ⟨_, _, _, _, _, _, _, _, _, _, h⟩
 ·obtain ⟨o, c, rfl, _⟩ := h3
  exact ⟨_, _, _, _, _, _, _, _, _, _, e1⟩
theorem look_nil (w : World) (C : Nat → List It) (A : Pl → Nat) : LookAt w (.slice none 0 0) 0 C A := ⟨_, _, rfl, by decide, fun h => absurd h (by decide)⟩
def NoB (G : GD) : Prop := validB G = false ∨ (validB G = true ∧ ∃ n, BuiltMany G n)
def RowsOf (G : GD) (n : Nat) (C : Nat → List It) (A : Pl → Nat) : Prop := (validB G = true ∧ BuiltOk G n ∧ C = (cxB G n (E0 G) (F0 G)).C ∧ LeastA (askX (cxB G n (E0 G) (F0 G))) (places (cxB G n (E0 G) (F0 G)) n) (0, (-1, 0)) (bitN 63) A) ∨ (NoB G ∧ n = 0 ∧ C = (fun _ => []))
theorem both_sum {G : GD} {w w4 v w5 : World} {lo mo : Option Addr} {ln lc mn mc : Nat} {r : Value} {er fr : Int} (h : AllP G w (.returned (.tuple #[.slice lo ln lc, .int .i64 er])) w4) (k : RAllP G v (.returned (.tuple #[.slice mo mn mc, r, .int .i64 fr])) w5) :
  er = fr ∧ ∃ n C A, n = ln ∧ n = mn ∧ LookAt w4 (.slice lo n lc) n C A ∧ LookAt w5 (.slice mo n mc) n C A ∧ RowsOf G n C A ∧ n ≤ 2000 ∧ (∀ i, (C i).length ≤ 1573) ∧ ∀ i, i < n → validB G = true ∧ closeX G (C i) = C i := by
 obtain ⟨_, hcase⟩ := h
 obtain ⟨_, kcase⟩ := k
 rcases hcase with ⟨h1, h2⟩ | ⟨h1, n, ⟨h2, h3⟩ | ⟨h2, v1, A, e1, hL, hK⟩⟩
 ·injection h2 with h2
  simp only [Value.tuple.injEq, Array.mk.injEq, List.cons.injEq, Value.slice.injEq, Value.int.injEq, and_true, true_and] at h2
  obtain ⟨⟨rfl, rfl, rfl⟩, rfl⟩ := h2
  rcases kcase with ⟨er2, hp, h3⟩ | ⟨k1, _⟩
  ·rcases hp with ⟨rfl, _⟩ | ⟨_, _, _, hv⟩
   ·injection h3 with h3
    simp only [Value.tuple.injEq, Array.mk.injEq, List.cons.injEq, Value.slice.injEq, Value.int.injEq, and_true, true_and] at h3
    obtain ⟨⟨rfl, rfl, rfl⟩, _, rfl⟩ := h3
    exact ⟨rfl, 0, fun _ => [], fun _ => 0, rfl, rfl, look_nil _ _ _, look_nil _ _ _, .inr ⟨.inl h1, rfl, rfl⟩, by decide, fun i => by simp, fun i hi => absurd hi (Nat.not_lt_zero i)⟩
   ·rw [h1] at hv; cases hv
  ·rw [h1] at k1; cases k1
 ·injection h3 with h3
  simp only [Value.tuple.injEq, Array.mk.injEq, List.cons.injEq, Value.slice.injEq, Value.int.injEq, and_true, true_and] at h3
  obtain ⟨⟨rfl, rfl, rfl⟩, rfl⟩ := h3
  rcases kcase with ⟨er2, hp, h4⟩ | ⟨_, m, k2, _⟩
  ·rcases hp with ⟨_, hv⟩ | ⟨rfl, _⟩
   ·rw [h1] at hv; cases hv
   ·injection h4 with h4
    simp only [Value.tuple.injEq, Array.mk.injEq, List.cons.injEq, Value.slice.injEq, Value.int.injEq, and_true, true_and] at h4
    obtain ⟨⟨rfl, rfl, rfl⟩, _, rfl⟩ := h4
    exact ⟨rfl, 0, fun _ => [], fun _ => 0, rfl, rfl, look_nil _ _ _, look_nil _ _ _, .inr ⟨.inr ⟨h1, n, h2⟩, rfl, rfl⟩, by decide, fun i => by simp, fun i hi => absurd hi (Nat.not_lt_zero i)⟩
  ·exact (X14.Built.not k2 h2).elim
 ·injection e1 with e1
  simp only [Value.tuple.injEq, Array.mk.injEq, List.cons.injEq, Value.int.injEq, and_true, true_and] at e1
  obtain ⟨rfl, rfl⟩ := e1
  rcases kcase with ⟨er2, hp, h4⟩ | ⟨_, m, k2, v2, ko, kn, kc, no, nn, nc, A2, e2, kL, kK⟩
  ·rcases hp with ⟨_, hv⟩ | ⟨_, m, hm, _⟩
   ·rw [h1] at hv; cases hv
   ·exact (X14.Built.not h2 hm).elim
  ·obtain rfl := X14.Built.one k2 h2
   injection e2 with e2
   simp only [Value.tuple.injEq, Array.mk.injEq, List.cons.injEq, Value.int.injEq, and_true, true_and] at e2
   obtain ⟨rfl, _, rfl⟩ := e2
   obtain rfl : A2 = A := funext fun q => kL.one hL q
   have hK' := hK
   have kK' := kK
   obtain ⟨o1, c1, e3, _⟩ := hK'
   obtain ⟨o2, c2, e4, _⟩ := kK'
   injection e3 with e3 e5 e6
   injection e4 with e4 e7 e8
   subst e3 e5 e6 e4 e7 e8
   exact ⟨rfl, _, _, A2, rfl, rfl, hK, kK, .inl ⟨h1, k2, rfl, hL⟩, built_le k2, cx_len h1 _ _ _, fun i _ => ⟨h1, X14.closeX_again G _⟩⟩
theorem aut_nil (w : World) : AutAt w (.agg #[.slice none 0 0, .slice none 0 0]) [] [] := ⟨_, _, rfl, ⟨_, _, rfl, by decide, fun h => absurd h (by decide)⟩, ⟨_, _, rfl, by decide, fun h => absurd h (by decide)⟩⟩
theorem build_sum {G : GD} {w w' : World} {e : Ending} (h : BuildPO G w e w') : Below w.heap.size w w' ∧ ∃ er ko kn kc no nn nc K N xs, e = .returned (.tuple #[.agg #[.slice ko kn kc, .slice no nn nc], .int .i64 er]) ∧ AutAt w' (.agg #[.slice ko kn kc, .slice no nn nc]) K N ∧
  w'.ownsRow w.heap.size 45 1 (.slice ko kn kc) (xs : List Value).length xs ∧ xs.length = K.length ∧ K.length ≤ 2000 ∧ (∀ w2, Touch (Value.slice ko kn kc).ownBlock.toList w' w2 → (∀ i u, xs[i]? = some u → ItemsAt w2 u (K.getD i [])) ∧ RowsAt w2 (.slice no nn nc) N.length (fun i u => IntsAt w2 u (N.getD i []))) ∧
  ((validB G = true ∧ ∃ n, BuiltOk G n ∧ K = (iterB G n).ker ∧ N = (iterB G n).nx) ∨ (NoB G ∧ K = [] ∧ N = [])) := by
 obtain ⟨hb, hcase⟩ := h
 have nil : ∀ (er : Int), NoB G → e = .returned (.tuple #[noAut, .int .i64 er]) → ∃ er ko kn kc no nn nc K N xs, e = .returned (.tuple #[.agg #[.slice ko kn kc, .slice no nn nc], .int .i64 er]) ∧ AutAt w' (.agg #[.slice ko kn kc, .slice no nn nc]) K N ∧
  w'.ownsRow w.heap.size 45 1 (.slice ko kn kc) (xs : List Value).length xs ∧ xs.length = K.length ∧ K.length ≤ 2000 ∧ (∀ w2, Touch (Value.slice ko kn kc).ownBlock.toList w' w2 → (∀ i u, xs[i]? = some u → ItemsAt w2 u (K.getD i [])) ∧ RowsAt w2 (.slice no nn nc) N.length (fun i u => IntsAt w2 u (N.getD i []))) ∧
  ((validB G = true ∧ ∃ n, BuiltOk G n ∧ K = (iterB G n).ker ∧ N = (iterB G n).nx) ∨ (NoB G ∧ K = [] ∧ N = [])) := fun er hn he =>
  ⟨er, none, 0, 0, none, 0, 0, [], [], [], he, aut_nil _, World.ownsRow_nil _ _ 45 1, rfl, by decide, fun w2 _ => ⟨fun i u hu => by simp at hu, ⟨_, _, rfl, by decide, fun h => absurd h (by decide)⟩⟩, .inr ⟨hn, rfl, rfl⟩⟩
 refine ⟨hb, ?_⟩
 rcases hcase with ⟨h1, h2⟩ | ⟨h1, n, ⟨h2, h3⟩ | ⟨h2, av, h3, h4, h5⟩⟩
 ·exact nil 1 (.inl h1) h2
 ·exact nil 4 (.inr ⟨h1, n, h2⟩) h3
 ·obtain ⟨kv, nv, xs, rfl, k1, k2, k3⟩ := h5
  have h6 := h4
  obtain ⟨kv', nv', e1, m1, m2⟩ := h6
  simp only [Value.agg.injEq, Array.mk.injEq, List.cons.injEq, and_true] at e1
  obtain ⟨rfl, rfl⟩ := e1
  obtain ⟨ko, kc, rfl, _⟩ := m1.len
  obtain ⟨no, nc, rfl, _⟩ := m2.len
  have hkl := h2.inv.2.2
  exact ⟨0, _, _, _, _, _, _, _, _, xs, h3, h4, k1, by rw [k2, hkl], by rw [hkl]; exact built_le h2, k3, .inl ⟨h1, n, h2, rfl, rfl⟩⟩
theorem nob_not {G : GD} {n : Nat} (h : NoB G) (hv : validB G = true) (hn : BuiltOk G n) : False := by
 rcases h with h | ⟨_, m, hm⟩
 ·rw [hv] at h; cases h
 ·exact X14.Built.not hn hm
theorem ahead_one {G : GD} {w w' : World} {e : Ending} {n : Nat} {C : Nat → List It} {A : Pl → Nat} {K : List (List It)} {N : List (List Int)} (hr : RowsOf G n C A) (hk : (validB G = true ∧ ∃ n, BuiltOk G n ∧ K = (iterB G n).ker ∧ N = (iterB G n).nx) ∨ (NoB G ∧ K = [] ∧ N = [])) (h : AheadP G K N w e w') :
  Below w.heap.size w w' ∧ ∃ o c, e = .returned (.slice o n c) ∧ LookAt w' (.slice o n c) n C A := by
 obtain ⟨hb, ⟨h1, h2⟩ | ⟨hv, m, h1, h2, h3, v, B, h4, h5, h6⟩⟩ := h
 ·rcases hr with ⟨hv, hn, rfl, hL⟩ | ⟨_, rfl, rfl⟩
  ·exfalso
   rcases hk with ⟨_, m, hm, k1, k2⟩ | ⟨hno, _⟩
   ·obtain rfl := X14.Built.one hm hn
    rcases h1 with h1 | ⟨_, ⟨q, h1⟩ | ⟨q, h1, h3⟩⟩
    ·rw [hv] at h1; cases h1
    ·exact X14.Built.not hn h1
    ·obtain rfl := X14.Built.one h1 hn
     exact h3 ⟨k1, k2⟩
   ·exact nob_not hno hv hn
  ·exact ⟨hb, none, 0, h2, look_nil _ _ _⟩
 ·rcases hr with ⟨_, hn, rfl, hL⟩ | ⟨hno, rfl, rfl⟩
  ·obtain rfl := X14.Built.one h1 hn
   obtain rfl : B = A := funext fun q => h5.one hL q
   have h7 := h6
   obtain ⟨o, c, rfl, _⟩ := h7
   exact ⟨hb, o, c, h4, h6⟩
  ·exact (nob_not hno hv h1).elim
theorem ahead_more {G : GD} {w w' : World} {e : Ending} {K : List (List It)} {N : List (List Int)} (hk : (validB G = true ∧ ∃ n, BuiltOk G n ∧ K = (iterB G n).ker ∧ N = (iterB G n).nx) ∨ (NoB G ∧ K = [] ∧ N = [])) (h : AheadP G (K ++ [[]]) N w e w') : Below w.heap.size w w' ∧ e = .returned (.slice none 0 0) := by
 obtain ⟨hb, ⟨h1, h2⟩ | ⟨hv, m, h1, h2, _⟩⟩ := h
 ·exact ⟨hb, h2⟩
 ·exfalso
  rcases hk with ⟨_, n, hn, k1, _⟩ | ⟨hno, _⟩
  ·obtain rfl := X14.Built.one h1 hn
   rw [k1] at h2
   have := congrArg List.length h2
   rw [List.length_append] at this
   simp at this
  ·exact nob_not hno hv h1
theorem ownB_lt {w : World} {B : Nat} {v : Value} {xs : List Value} (h : w.ownsRow B 45 1 v xs.length xs) : ∀ b ∈ v.ownBlock.toList, B ≤ b ∧ b < w.heap.size := fun b hb => owns_lt h b (by simpa using hb)
theorem aut_grow {B : Nat} {wb wq wz : World} {kv nv v' : Value} {xs : List Value} {K : List (List It)} {N : List (List Int)} (hown : wb.ownsRow B 45 1 kv xs.length xs) (hxl : xs.length = K.length) (hK2 : K.length ≤ 2000)
  (hTo : ∀ w2, Touch kv.ownBlock.toList wb w2 → (∀ i u, xs[i]? = some u → ItemsAt w2 u (K.getD i [])) ∧ RowsAt w2 nv N.length (fun i u => IntsAt w2 u (N.getD i []))) (hbq : Below wb.heap.size wb wq) (hg : wq.grownBy wz kv.ownBlock)
  (hown' : wz.ownsRow B 45 1 v' (xs ++ [Value.slice none 0 0]).length (xs ++ [Value.slice none 0 0])) (hat : v'.ownBlock = kv.ownBlock ∨ v'.ownBlock = some wq.heap.size) {bx : Nat} (hx1 : wb.heap.size ≤ bx) (hx2 : bx < wq.heap.size) (u : Value) : AutAt (wz.setCell ⟨bx, 0, none⟩ u) (.agg #[v', nv]) (K ++ [[]]) N := by
 have ht := Touch.grown hg
 have hkb := ownB_lt hown
 have htz : Touch kv.ownBlock.toList wb (wz.setCell ⟨bx, 0, none⟩ u) := by
  have t1 : Touch kv.ownBlock.toList wb wz := ((Touch.below hbq).mono (fun g hg => by cases hg)).trans ht
  have t2 := Touch.set wz bx 0 u
  exact ⟨t2.os.trans t1.os, t2.tape.trans t1.tape, t2.output.trans t1.output, Nat.le_trans t1.size t2.size, fun g hg2 hn => (t2.block g (Nat.lt_of_lt_of_le hg2 t1.size) (by simp; omega)).trans (t1.block g hg2 hn)⟩
 obtain ⟨h1, h2⟩ := hTo _ htz
 have hvb : ∀ b, v'.ownBlock = some b → b ≠ bx := fun b hb e => by
  subst e
  rcases hat with h | h
  ·rw [h] at hb
   have := hkb b (by rw [hb]; simp)
   omega
  ·rw [h] at hb
   injection hb with hb
   omega
 have hown2 : (wz.setCell ⟨bx, 0, none⟩ u).ownsRow B 45 1 v' (xs ++ [Value.slice none 0 0]).length (xs ++ [Value.slice none 0 0]) := owns_kept hown' fun g hg2 => heap_setCell_other _ _ _ _ (by show g ≠ bx; exact hvb g hg2)
 refine ⟨v', nv, rfl, ?_, h2⟩
 have hr := own_rows (p := fun i x => ItemsAt (wz.setCell ⟨bx, 0, none⟩ u) x ((K ++ [[]]).getD i [])) hown2 (by rw [List.length_append, hxl]; simp; omega) fun i x hx => ?_
 ·rw [List.length_append, hxl] at hr
  rw [List.length_append]
  exact hr
 ·by_cases hi : i < xs.length
  ·rw [List.getElem?_append_left hi] at hx
   rw [List.getD_eq_getElem?_getD, List.getElem?_append_left (by omega), ← List.getD_eq_getElem?_getD]
   exact h1 i x hx
  ·rw [List.getElem?_append_right (by omega)] at hx
   have h0 := (List.getElem?_eq_some_iff.1 hx).1
   have hi0 : i = xs.length := by simp at h0; omega
   subst hi0
   simp at hx
   subst hx
   rw [List.getD_eq_getElem?_getD, List.getElem?_append_right (by omega), hxl]
   simp
   exact items_nil _
set_option maxRecDepth 100000 in
set_option maxHeartbeats 16000000 in
theorem all_walk {G : GD} {gv : Value} {w : World} {Bt : Nat} (h : Gram w gv G) (ht : Tab Bt w) (hBt : Bt ≤ w.heap.size) :
  Calls Tryz.prog 3 #[gv] w fun e w' => e = .returned (.bool true) ∧ Below w.heap.size w w' := by
 have HGr := hid h
 have HT := hid ht
 obtain ⟨tv, ov, sv, pv, tf, rv, h⟩ := h
 have HGA := hid h
 have hgv := h.eq
 subst hgv
 obtain ⟨W1, e1⟩ : ∃ W1, w.alloc (.cells #[tv, ov, sv, pv, .int .i64 G.start] 27) = W1 := ⟨_, rfl⟩
 have hb1 : Below w.heap.size w W1 := by rw [← e1]; exact (Below.refl _ _).alloc (Nat.le_refl _) _
 have n1 : W1.heap[w.heap.size]? = some (.cells #[tv, ov, sv, pv, .int .i64 G.start] 27 (0, 0)) := by rw [← e1]; exact new_block _ _
 have HB1 := hid hb1
 have HN1 := hid n1
 have KW := hid (works_any W1 (ht.on (hb1.mono hBt)) (Nat.le_trans hBt hb1.size))
 clear h hb1 n1 ht
 go_enter Tryz.func3, Tryz.ntmps3
 go_wp2_with fail
 refine KW.out.mono ?_
 rintro e w2 ⟨rfl, hb2⟩
 have HB2 := hid (HB1.out.trans (hb2.mono HB1.out.size))
 have HN2 := hid ((hb2.block _ (Array.getElem?_eq_some_iff.1 HN1.out).1).trans HN1.out)
 have c0 : w2.cell? ⟨w.heap.size, 0, none⟩ = some (tv) := Lib.cell_of_heap HN2.out 0
 have c1 : w2.cell? ⟨w.heap.size, 1, none⟩ = some (ov) := Lib.cell_of_heap HN2.out 1
 have c2 : w2.cell? ⟨w.heap.size, 2, none⟩ = some (sv) := Lib.cell_of_heap HN2.out 2
 have c3 : w2.cell? ⟨w.heap.size, 3, none⟩ = some (pv) := Lib.cell_of_heap HN2.out 3
 have c4 : w2.cell? ⟨w.heap.size, 4, none⟩ = some (.int .i64 G.start) := Lib.cell_of_heap HN2.out 4
 have KF := hid (Little_any (HGr.out.below HB2.out))
 clear hb2 KW e1
 go_wp2_with fail
 refine KF.out.mono ?_
 rintro e w3 ⟨fw, rfl, hb3⟩
 have HB3 := hid (HB2.out.trans (hb3.mono HB2.out.size))
 have HN3 := hid ((hb3.block _ (Array.getElem?_eq_some_iff.1 HN2.out).1).trans HN2.out)
 clear hb3 KF c0 c1 c2 c3 c4
 cases fw
 ·go_wp2_with fail
  go_ret
  exact ⟨rfl, HB3.out⟩
 have c0 : w3.cell? ⟨w.heap.size, 0, none⟩ = some (tv) := Lib.cell_of_heap HN3.out 0
 have c1 : w3.cell? ⟨w.heap.size, 1, none⟩ = some (ov) := Lib.cell_of_heap HN3.out 1
 have c2 : w3.cell? ⟨w.heap.size, 2, none⟩ = some (sv) := Lib.cell_of_heap HN3.out 2
 have c3 : w3.cell? ⟨w.heap.size, 3, none⟩ = some (pv) := Lib.cell_of_heap HN3.out 3
 have c4 : w3.cell? ⟨w.heap.size, 4, none⟩ = some (.int .i64 G.start) := Lib.cell_of_heap HN3.out 4
 have KA := hid (All_any (HGr.out.below HB3.out) (HT.out.on (HB3.out.mono hBt)) (Nat.le_trans hBt HB3.out.size))
 go_wp2_with fail
 refine KA.out.mono ?_
 rintro e w4 hap
 obtain ⟨lo, ln, lc, er, rfl⟩ := all_shape hap
 have hb4 := hap.1
 have HAP := hid hap
 have HB4 := hid (HB3.out.trans (hb4.mono HB3.out.size))
 have HN4 := hid ((hb4.block _ (Array.getElem?_eq_some_iff.1 HN3.out).1).trans HN3.out)
 have KR := hid (RAll_any (HGr.out.below HB4.out))
 clear hap hb4 KA c0 c1 c2 c3 c4
 have c0 : w4.cell? ⟨w.heap.size, 0, none⟩ = some (tv) := Lib.cell_of_heap HN4.out 0
 have c1 : w4.cell? ⟨w.heap.size, 1, none⟩ = some (ov) := Lib.cell_of_heap HN4.out 1
 have c2 : w4.cell? ⟨w.heap.size, 2, none⟩ = some (sv) := Lib.cell_of_heap HN4.out 2
 have c3 : w4.cell? ⟨w.heap.size, 3, none⟩ = some (pv) := Lib.cell_of_heap HN4.out 3
 have c4 : w4.cell? ⟨w.heap.size, 4, none⟩ = some (.int .i64 G.start) := Lib.cell_of_heap HN4.out 4
 go_wp2_with fail
 refine KR.out.mono ?_
 rintro e w5 hrp
 obtain ⟨mo, mn, mc, ko, kn, kc, no, nn, nc, fr, rfl⟩ := rall_shape hrp
 obtain ⟨rfl, n, C, A, rfl, rfl, hL4, hL5, hRO, hn1, hCL, hOK⟩ := both_sum HAP.out hrp
 have hb5 := hrp.1
 have HB5 := hid (HB4.out.trans (hb5.mono HB4.out.size))
 have HN5 := hid ((hb5.block _ (Array.getElem?_eq_some_iff.1 HN4.out).1).trans HN4.out)
 have HRO := hid hRO
 have HCL := hid hCL
 have HOK := hid hOK
 obtain ⟨w6, e6⟩ : ∃ w6, w5.alloc (.cells #[.slice ko kn kc, .slice no nn nc] 38) = w6 := ⟨_, rfl⟩
 have hb6 : Below w5.heap.size w5 w6 := by rw [← e6]; exact (Below.refl _ _).alloc (Nat.le_refl _) _
 have HL := hid (hL4.below (hb5.trans (hb6.mono hb5.size)))
 have HM := hid (hL5.below hb6)
 have HB6 := hid (HB5.out.trans (hb6.mono HB5.out.size))
 have HN6 := hid ((hb6.block _ (Array.getElem?_eq_some_iff.1 HN5.out).1).trans HN5.out)
 have KS := hid (same_look HL.out HM.out hCL hn1)
 clear hrp hL4 hL5 hRO hCL hOK hb5 hb6 KR HAP c0 c1 c2 c3 c4
 go_wp2_with fail
 refine KS.out.mono ?_
 rintro e w7 ⟨rfl, hb7⟩
 have HB7 := hid (HB6.out.trans (hb7.mono HB6.out.size))
 have HN7 := hid ((hb7.block _ (Array.getElem?_eq_some_iff.1 HN6.out).1).trans HN6.out)
 have HL7 := hid (HL.out.below hb7)
 have HM7 := hid (HM.out.below hb7)
 clear hb7 KS e6 HL HM
 go_wp2_with fail
 go_loopw [10] (fun t10 wr => ∃ i : Nat, i ≤ n ∧ t10 = .int .i64 (i : Int) ∧ Hid (Below w7.heap.size w7 wr)) (fun t10 _ => n - (RowKit.intOf t10).toNat)
 case atStart => exact ⟨0, Nat.zero_le _, rfl, hid (Below.refl _ _)⟩
 case round =>
  obtain ⟨i, hin, rfl, HR⟩ := hrel
  by_cases hli : i < n
  ·have m1 : (i : Int) < (n : Int) := by omega
   have m0 : (0 : Int) ≤ (i : Int) := by omega
   obtain ⟨hV, hcl⟩ := HOK.out i hli
   have hCi := HCL.out i
   obtain ⟨lb, lf, lc2, ea, hka⟩ := look_r HL7.out (by omega)
   obtain ⟨mb, mf, mc2, eb, hkb⟩ := look_r HM7.out (by omega)
   injection ea with ea _ ec
   injection eb with eb _ ed
   subst ea
   subst ec
   subst eb
   subst ed
   obtain ⟨io, ic, ao, ac, q0, q1, qi, qa, -⟩ := hka i hli
   obtain ⟨io2, ic2, ao2, ac2, p0, p1, pi, pa, -⟩ := hkb i hli
   obtain ⟨L, hL⟩ : ∃ L, C i = L := ⟨_, rfl⟩
   rw [hL] at q0 q1 qi qa p0 p1 pi pa hcl hCi
   obtain ⟨us, hus⟩ : ∃ us, (L.map fun x => A (i, x)) = us := ⟨_, rfl⟩
   have hul : us.length = L.length := by rw [← hus, List.length_map]
   rw [hus] at qa pa
   have HQI := hid (And.intro qi (And.intro qa (And.intro pi pa)))
   have HVC := hid (And.intro hV (And.intro hcl (And.intro hCi hul)))
   obtain ⟨N, hN⟩ : ∃ N, L.length = N := ⟨_, rfl⟩
   have HNN := hid hN
   rw [hN] at q0 q1 p0 p1
   rw [hN] at HQI
   have HQ := hid (And.intro q0 (And.intro q1 (And.intro p0 p1)))
   obtain ⟨wd, ewd⟩ : ∃ wd, wr.drew = wd := ⟨_, rfl⟩
   have hbd : Below wr.heap.size wr wd := by rw [← ewd]; exact (Below.refl _ _).drew
   have HRd := hid (HR.out.trans (hbd.mono HR.out.size))
   have HS := hid (show ∀ w', Below wd.heap.size wd w' → w'.cell? ⟨w.heap.size, 0, none⟩ = some (tv) ∧ w'.cell? ⟨w.heap.size, 1, none⟩ = some (ov) ∧ w'.cell? ⟨w.heap.size, 2, none⟩ = some (sv) ∧ w'.cell? ⟨w.heap.size, 3, none⟩ = some (pv) ∧ w'.cell? ⟨w.heap.size, 4, none⟩ = some (.int .i64 G.start) ∧ w'.cell? ⟨lb, lf + i * 2, none⟩ = some (.slice io N ic) ∧ w'.cell? ⟨lb, lf + i * 2 + 1, none⟩ = some (.slice ao N ac) ∧ w'.cell? ⟨mb, mf + i * 2, none⟩ = some (.slice io2 N ic2) ∧ w'.cell? ⟨mb, mf + i * 2 + 1, none⟩ = some (.slice ao2 N ac2) from fun w' hC => by
    have hb := HRd.out.trans (hC.mono HRd.out.size)
    have nG := (hb.block _ (Array.getElem?_eq_some_iff.1 HN7.out).1).trans HN7.out
    exact ⟨Lib.cell_of_heap nG 0, Lib.cell_of_heap nG 1, Lib.cell_of_heap nG 2, Lib.cell_of_heap nG 3, Lib.cell_of_heap nG 4, cell_below hb HQ.out.1, cell_below hb HQ.out.2.1, cell_below hb HQ.out.2.2.1, cell_below hb HQ.out.2.2.2⟩)
   have HH0 := HS.out wd (Below.refl _ _)
   clear hka hkb q0 q1 qi qa p0 p1 pi pa hL hus hul hV hcl hCi hN hbd
   go_wp2_with fail
   refine region_T 13 (fun w' => w'.cell? ⟨w.heap.size, 0, none⟩ = some (tv) ∧ w'.cell? ⟨w.heap.size, 1, none⟩ = some (ov) ∧ w'.cell? ⟨w.heap.size, 2, none⟩ = some (sv) ∧ w'.cell? ⟨w.heap.size, 3, none⟩ = some (pv) ∧ w'.cell? ⟨w.heap.size, 4, none⟩ = some (.int .i64 G.start) ∧ w'.cell? ⟨lb, lf + i * 2, none⟩ = some (.slice io N ic) ∧ w'.cell? ⟨lb, lf + i * 2 + 1, none⟩ = some (.slice ao N ac) ∧ w'.cell? ⟨mb, mf + i * 2, none⟩ = some (.slice io2 N ic2) ∧ w'.cell? ⟨mb, mf + i * 2 + 1, none⟩ = some (.slice ao2 N ac2)) (by kernel_rfl) (by rw [ewd]; exact HH0) (fun inv hHeld => ?_)
   rw [ewd]
   clear hHeld ewd
   iterate 10
    refine anyT_auto (v := ?_) rfl (by kernel_rfl) (fun _ _ _ h => h) (Or.inl ⟨by rfl, ?_⟩) HH0 inv (fun inv => ?_)
    rotate_left
    ·intro w hSw
     try dsimp only at hSw
     go_simp
     try with_reducible rfl
    simp only [Act.put, sjA, sj0, sjS]
   refine anyT_next (i := 5) (o := { dst := some 52, op := Go.Op.call { callee := Go.Callee.value (Go.Operand.func 21), args := #[Go.Operand.tmp 47, Go.Operand.tmp 51], argTypes := #[27, 48] }, type := 43, pos := "law.go:62", after := #[{ on := 0, ground := Go.Ground.data }, { on := 4, ground := Go.Ground.data }], guard := none }) (by kernel_rfl) rfl (by decide) inv (fun inv K' hK => ?_)
   go_simp
   refine (Done_any (iv := .slice io N ic) (av := .slice ao N ac) (HGr.out.below (HB7.out.trans (HRd.out.mono HB7.out.size))) HVC.out.1 (HQI.out.1.below HRd.out) (by have := HVC.out.2.2.1; omega) (HQI.out.2.1.below HRd.out)).mono ?_
   rintro e w8 ⟨dv, rfl, hb8, hdv⟩
   have HB8 := hid hb8
   have HDV := hid (IntR.of_own hdv rfl)
   obtain ⟨do_, dc, rfl⟩ := ownsT_shape hdv
   have HH1 := HS.out w8 hb8
   refine hK.out _ _ HH1 ?_
   clear hK K' HH0 hb8 hdv
   try simp only [Act.put, sjA, sj0, sjS]
   refine anyT_next (i := 11) (o := { dst := some 58, op := Go.Op.call { callee := Go.Callee.value (Go.Operand.func 22), args := #[Go.Operand.tmp 53, Go.Operand.tmp 57], argTypes := #[27, 52] }, type := 43, pos := "law.go:62", after := #[{ on := 6, ground := Go.Ground.data }, { on := 10, ground := Go.Ground.data }, { on := 5, ground := Go.Ground.chain }], guard := none }) (by kernel_rfl) rfl (by decide) inv (fun inv K' hK => ?_)
   go_simp
   refine (RDone_any (iv := .slice io2 N ic2) (av := .slice ao2 N ac2) (HGr.out.below (HB7.out.trans ((HRd.out.trans (HB8.out.mono HRd.out.size)).mono HB7.out.size))) HVC.out.1 HVC.out.2.1 (HQI.out.2.2.1.below (HRd.out.trans (HB8.out.mono HRd.out.size))) (by have := HVC.out.2.2.1; omega) (HQI.out.2.2.2.below (HRd.out.trans (HB8.out.mono HRd.out.size))) HVC.out.2.2.2).mono ?_
   rintro e wf ⟨fv, rfl, hbf, hfv⟩
   have HB8' := hid (HB8.out.trans (hbf.mono HB8.out.size))
   have HFV := hid (IntR.of_own hfv rfl)
   have HDV := hid (HDV.out.below hbf)
   obtain ⟨fo, fc, rfl⟩ := ownsT_shape hfv
   have HH2 := HS.out wf HB8'.out
   refine hK.out _ _ HH2 ?_
   clear hK K' HH1 hbf hfv
   try simp only [Act.put, sjA, sj0, sjS]
   refine anyT_next (i := 12) (o := { dst := some 59, op := Go.Op.call { callee := Go.Callee.value (Go.Operand.func 20), args := #[Go.Operand.tmp 52, Go.Operand.tmp 58], argTypes := #[43, 43] }, type := 4, pos := "law.go:62", after := #[{ on := 5, ground := Go.Ground.data }, { on := 11, ground := Go.Ground.data }, { on := 11, ground := Go.Ground.chain }], guard := none }) (by kernel_rfl) rfl (by decide) inv (fun inv K' hK => ?_)
   go_simp
   refine (ints_same HDV.out HFV.out (by have h1 := doneN_len G L us L.length; have h2 := HVC.out.2.2.1; omega)).mono ?_
   rintro e wg ⟨rfl, hbg⟩
   have HB9 := hid (HB8'.out.trans (hbg.mono HB8'.out.size))
   have HH3 := HS.out wg HB9.out
   refine hK.out _ _ HH3 ?_
   clear hK K' HH2 hbg
   try simp only [Act.put, sjA, sj0, sjS]
   refine anyT_one (i := 13) (o := { dst := some 60, op := Go.Op.unOp Go.UnOp.not 4 (Go.Operand.tmp 59), type := 4, pos := "law.go:62", after := #[{ on := 12, ground := Go.Ground.data }], guard := none }) (by kernel_rfl) rfl (fun K' hK => ?_)
   go_simp
   refine hK.out _ _ (fun h => absurd h (by decide)) ?_
   clear hK K'
   try simp only [Act.put, sjA, sj0, sjS]
   refine anyT_done (by kernel_rfl) ?_ _
   have HR9 := hid (HRd.out.trans (HB9.out.mono HRd.out.size))
   clear HS HH3 HRd HB8 HB9
   go_wp2_with fail
   refine ⟨⟨i + 1, by omega, by go_num, HR9⟩, ?_⟩
   simp [RowKit.intOf]
   omega
  ·have m1 : ¬ (i : Int) < (n : Int) := by omega
   have HRB := hid (HB7.out.trans (HR.out.mono HB7.out.size))
   have hnG := (HR.out.block _ (Array.getElem?_eq_some_iff.1 HN7.out).1).trans HN7.out
   have HNR := hid hnG
   have c0 : wr.cell? ⟨w.heap.size, 0, none⟩ = some (tv) := Lib.cell_of_heap hnG 0
   have c1 : wr.cell? ⟨w.heap.size, 1, none⟩ = some (ov) := Lib.cell_of_heap hnG 1
   have c2 : wr.cell? ⟨w.heap.size, 2, none⟩ = some (sv) := Lib.cell_of_heap hnG 2
   have c3 : wr.cell? ⟨w.heap.size, 3, none⟩ = some (pv) := Lib.cell_of_heap hnG 3
   have c4 : wr.cell? ⟨w.heap.size, 4, none⟩ = some (.int .i64 G.start) := Lib.cell_of_heap hnG 4
   have HMr := hid (HM7.out.below HR.out)
   have KB := hid (Build_own (HGr.out.below HRB.out) (HT.out.on (HRB.out.mono hBt)) (Nat.le_trans hBt HRB.out.size))
   clear hnG
   go_wp2_with fail
   refine KB.out.mono ?_
   rintro e wb hbp
   obtain ⟨hbb, er2, ko2, kn2, kc2, no2, nn2, nc2, K, N, xs, rfl, hA, hown, hxl, hkl, hTo, hK⟩ := build_sum hbp
   have HBB := hid (HRB.out.trans (hbb.mono HRB.out.size))
   have HNB := hid ((hbb.block _ (Array.getElem?_eq_some_iff.1 HNR.out).1).trans HNR.out)
   have HMb := hid (HMr.out.below hbb)
   have HA := hid hA
   have HOWN := hid hown
   have HXL := hid (And.intro hxl (And.intro hkl hTo))
   have HK := hid hK
   have hrb := hbb.size
   have hsz := HRB.out.size
   obtain ⟨wA, eA⟩ : ∃ wA, wb.alloc (.cells #[.slice ko2 kn2 kc2, .slice no2 nn2 nc2] 55) = wA := ⟨_, rfl⟩
   have nA : wA.heap[wb.heap.size]? = some (.cells #[.slice ko2 kn2 kc2, .slice no2 nn2 nc2] 55 (0, 0)) := by rw [← eA]; exact new_block _ _
   have hbA : Below wb.heap.size wb wA := by rw [← eA]; exact (Below.refl _ _).alloc (Nat.le_refl _) _
   have HNA := hid nA
   have HBA := hid hbA
   have HGA2 := hid ((hbA.block _ (Array.getElem?_eq_some_iff.1 HNB.out).1).trans HNB.out)
   have HWA := hid (HBB.out.trans (hbA.mono HBB.out.size))
   have a0 : wA.cell? ⟨wb.heap.size, 0, none⟩ = some (.slice ko2 kn2 kc2) := Lib.cell_of_heap nA 0
   have a1 : wA.cell? ⟨wb.heap.size, 1, none⟩ = some (.slice no2 nn2 nc2) := Lib.cell_of_heap nA 1
   have KH := hid (Ahead_any (HGr.out.below HWA.out) (HA.out.below hbA) (HT.out.on (HWA.out.mono hBt)) (Nat.le_trans hBt HWA.out.size))
   clear hbp hA hown hxl hkl hTo hK hbb nA hbA KB c0 c1 c2 c3 c4
   have c0 : wA.cell? ⟨w.heap.size, 0, none⟩ = some (tv) := Lib.cell_of_heap HGA2.out 0
   have c1 : wA.cell? ⟨w.heap.size, 1, none⟩ = some (ov) := Lib.cell_of_heap HGA2.out 1
   have c2 : wA.cell? ⟨w.heap.size, 2, none⟩ = some (sv) := Lib.cell_of_heap HGA2.out 2
   have c3 : wA.cell? ⟨w.heap.size, 3, none⟩ = some (pv) := Lib.cell_of_heap HGA2.out 3
   have c4 : wA.cell? ⟨w.heap.size, 4, none⟩ = some (.int .i64 G.start) := Lib.cell_of_heap HGA2.out 4
   go_wp2_with fail
   refine KH.out.mono ?_
   rintro e wc hah
   obtain ⟨hbc, oc, cc, rfl, hLc⟩ := ahead_one HRO.out HK.out hah
   have HBC := hid (HBA.out.trans (hbc.mono HBA.out.size))
   have HAC := hid hbc
   have KS := hid (same_look hLc (HMb.out.below HBC.out) HCL.out hn1)
   clear hah hLc hbc KH c0 c1 c2 c3 c4 a0 a1 eA
   go_wp2_with fail
   refine KS.out.mono ?_
   rintro e we ⟨rfl, hbe⟩
   have HAE := hid (HAC.out.trans (hbe.mono HAC.out.size))
   have HBE := hid (HBC.out.trans (hbe.mono HBC.out.size))
   have hAlt := (Array.getElem?_eq_some_iff.1 HNA.out).1
   have n55 := (HAE.out.block _ hAlt).trans HNA.out
   have a0 : we.cell? ⟨wb.heap.size, 0, none⟩ = some (.slice ko2 kn2 kc2) := Lib.cell_of_heap n55 0
   obtain ⟨wq, eq⟩ : ∃ wq, we.alloc (.cells #[.slice none 0 0] 45) = wq := ⟨_, rfl⟩
   have nq : wq.heap[we.heap.size]? = some (.cells #[.slice none 0 0] 45 (0, 0)) := by rw [← eq]; exact new_block _ _
   have hbq : Below we.heap.size we wq := by rw [← eq]; exact (Below.refl _ _).alloc (Nat.le_refl _) _
   have HBQ := hid (HBE.out.trans (hbq.mono HBE.out.size))
   have HAQ := hid (HAE.out.trans (hbq.mono HAE.out.size))
   have HNQ := hid nq
   have HOWQ := hid (own_below HOWN.out HBQ.out)
   have HXLE := hid (show xs.length ≤ 1000000 from by have h1 := HXL.out.1; have h2 := HXL.out.2.1; omega)
   have HBLE := hid (show wr.heap.size ≤ wq.heap.size from Nat.le_trans hrb HBQ.out.size)
   have HQL := hid (show wb.heap.size < wq.heap.size from Nat.lt_of_lt_of_le hAlt HAQ.out.size)
   clear hbe KS n55 nq hbq hAlt
   go_wp2_with (refine wpList_push1 rfl (.tmp 73) (.tmp 74) 53 45 rfl (.slice none 0 0) 24 Tryz.underlying53 info28 rfl (by decide) wr.heap.size (.slice ko2 kn2 kc2) xs rfl HOWQ.out we.heap.size rfl (.slice none 0 0) HNQ.out rfl HXLE.out HBLE.out ?_)
   intro v' wz hown' hg hat
   obtain ⟨vo, vc, rfl⟩ := own_shape hown'
   obtain ⟨L, hL0⟩ : ∃ L, xs.length + 1 = L := ⟨_, rfl⟩
   have hL : (xs ++ [Value.slice none 0 0]).length = L := by rw [List.length_append]; exact hL0
   have htz := Touch.grown hg
   have hkb := ownB_lt HOWN.out
   have hn55 : wz.heap[wb.heap.size]? = some (.cells #[.slice ko2 kn2 kc2, .slice no2 nn2 nc2] 55 (0, 0)) := by
    rw [htz.block _ HQL.out (fun h => by have := (hkb _ h).2; omega)]
    exact (HAQ.out.block _ (Array.getElem?_eq_some_iff.1 HNA.out).1).trans HNA.out
   have hnG : wz.heap[w.heap.size]? = some (.cells #[tv, ov, sv, pv, .int .i64 G.start] 27 (0, 0)) := by
    have hlw := (Array.getElem?_eq_some_iff.1 HNR.out).1
    have hlb := (Array.getElem?_eq_some_iff.1 HNB.out).1
    rw [htz.block _ (Nat.lt_of_lt_of_le hlb HBQ.out.size) (fun h => by have := (hkb _ h).1; omega)]
    exact (HBQ.out.block _ hlb).trans HNB.out
   have b0 : wz.cell? ⟨wb.heap.size, 0, none⟩ = some (.slice ko2 kn2 kc2) := Lib.cell_of_heap hn55 0
   have f0 := Lib.frozen_of_heap hn55 0
   simp only [List.length_append, List.length_cons, List.length_nil, Nat.zero_add, hL0]
   obtain ⟨ws, es⟩ : ∃ ws, wz.setCell ⟨wb.heap.size, 0, none⟩ (.slice vo L vc) = ws := ⟨_, rfl⟩
   have ns55 : ws.heap[wb.heap.size]? = some (.cells #[.slice vo L vc, .slice no2 nn2 nc2] 55 (0, 0)) := by rw [← es]; exact heap_setCell_same _ _ 0 _ 55 _ hn55
   have hgw : w.heap.size ≠ wb.heap.size := by
    have := (Array.getElem?_eq_some_iff.1 HNB.out).1
    omega
   have nsG : ws.heap[w.heap.size]? = some (.cells #[tv, ov, sv, pv, .int .i64 G.start] 27 (0, 0)) := by
    rw [← es, heap_setCell_other _ _ _ _ (by show w.heap.size ≠ wb.heap.size; exact hgw)]
    exact hnG
   have HWS := hid (show Below w.heap.size w ws from by
    have h1 : Below w.heap.size w wq := HBB.out.trans (HBQ.out.mono HBB.out.size)
    have h2 : Below w.heap.size w wz := htz.bel h1 (Nat.le_refl _) (fun b hb => by have := (hkb _ hb).1; omega)
    rw [← es]
    exact h2.setCell (by show w.heap.size ≤ wb.heap.size; omega) _)
   have haut := aut_grow HOWN.out HXL.out.1 HXL.out.2.1 HXL.out.2.2 HBQ.out hg (by rw [List.length_append]; exact hown') hat (Nat.le_refl wb.heap.size) HQL.out (.slice vo L vc)
   rw [hL0, es] at haut
   have KH := hid (Ahead_any (HGr.out.below HWS.out) haut (HT.out.on (HWS.out.mono hBt)) (Nat.le_trans hBt HWS.out.size))
   have a0 : ws.cell? ⟨wb.heap.size, 0, none⟩ = some (.slice vo L vc) := Lib.cell_of_heap ns55 0
   have a1 : ws.cell? ⟨wb.heap.size, 1, none⟩ = some (.slice no2 nn2 nc2) := Lib.cell_of_heap ns55 1
   have c0 : ws.cell? ⟨w.heap.size, 0, none⟩ = some (tv) := Lib.cell_of_heap nsG 0
   have c1 : ws.cell? ⟨w.heap.size, 1, none⟩ = some (ov) := Lib.cell_of_heap nsG 1
   have c2 : ws.cell? ⟨w.heap.size, 2, none⟩ = some (sv) := Lib.cell_of_heap nsG 2
   have c3 : ws.cell? ⟨w.heap.size, 3, none⟩ = some (pv) := Lib.cell_of_heap nsG 3
   have c4 : ws.cell? ⟨w.heap.size, 4, none⟩ = some (.int .i64 G.start) := Lib.cell_of_heap nsG 4
   clear hown' hg hat hL hL0 htz hkb hn55 hnG ns55 hgw nsG haut eq
   go_wp2_with fail
   refine KH.out.mono ?_
   rintro e wy hah
   obtain ⟨hby, rfl⟩ := ahead_more HK.out hah
   have HFIN := hid (HWS.out.trans (hby.mono HWS.out.size))
   clear hah hby KH c0 c1 c2 c3 c4 a0 a1 b0 f0 es
   go_wp2_with fail
   go_ret
   exact ⟨rfl, HFIN.out⟩
end Go.Proofs.YticmnfmijdgmbaaGreatDoor

/- A law's last step, for a walk that lays new memory alone: whatever lay before the call lies behind it. -/
namespace Go.Proofs.YticmnfmijdgmbaaGreatDoor
open Go Go.RowKit Go.WideShapes Go.ChangeShapes
theorem post_kept {H : Type} {enc : TypeId × Value → H} {P : Program} {f : Func} {s : ChangeSpec} {apart fresh handsOn again : Bool} {W W' : World} {args : Array Value} {v : Value} {ds gs : List (DataW H)} {before pa pv : List MemPlace}
  (hW : DataW.Whole enc P f.params.toList s.vars apart W args.toList ds gs before)
  (hres : ∀ (b : Nat) (sp : Nat → Bool) (hd : Bool), DataW.TrodAll enc P W' b sp hd f.resultTypes.toList (v.resultList f.resultTypes.size) (s.fn H (ds ++ gs)).results [])
  (hargs : ∀ sp : Nat → Bool, (∀ p ∈ before, sp p.block = true) → DataW.TrodAll enc P W' 0 sp true f.params.toList args.toList (s.fn H (ds ++ gs)).args pa)
  (hvars : ∀ sp : Nat → Bool, (∀ p ∈ before, sp p.block = true) → DataW.TrodVars enc P W' sp s.vars (s.fn H (ds ++ gs)).vars pv)
  (hps : before = pa ++ pv) (hb : Below W.heap.size W W')
  (hok : ∀ (j : Nat) (t : TypeId) (r : Value), f.resultTypes[j]? = some t → (v.resultList f.resultTypes.size)[j]? = some r → Value.okWide P W' .any 0 t r) :
  s.post enc P f apart fresh handsOn again W args v W' := by
 have old : ∀ p ∈ before, decide (p.block < W.heap.size) = true := fun p hp => decide_eq_true (hW.lt p hp)
 have inside : ∀ p, p ∈ pa ++ pv → p ∈ before := fun p hp => by rw [hps]; exact hp
 refine ⟨ds, gs, before, [], pa, pv, hW, hres _ _ _, hargs _ old, hvars _ old, World.keptBut_mono (fun p hp => ⟨hp, ?_⟩) (hb.frame (· ∈ before)), fun _ => ⟨hok, _, _, [] ++ pa ++ pv, ⟨[] ++ pa, pv, trodAll_append (hargs _ fun _ _ => rfl) (hres _ _ _), hvars _ fun _ _ => rfl, rfl, ?_, ?_⟩, ?_⟩⟩
 ·exact .inr (List.mem_append.1 (hps ▸ hp))
 ·intro b off hp
  have hW0 := hW
  obtain ⟨_, _, _, _, _, hz, _⟩ := hW
  have hin := inside _ (by simpa using hp)
  exact (hb.frozen (p := ⟨b, off, none⟩) (hW0.lt _ hin)).trans (hz b off hin)
 ·intro ha
  obtain ⟨_, _, _, _, _, _, hn⟩ := hW
  simpa [hps] using hn ha
 ·intro p hp _
  exact inside p (by simpa using hp)
end Go.Proofs.YticmnfmijdgmbaaGreatDoor

/- A law's last step, whatever the types of its parameters. -/
namespace Go.Proofs.YticmnfmijdgmbaaGreatDoor
open Go Go.RowKit Go.WideShapes Go.ChangeShapes
theorem all_stay {H : Type} {enc : TypeId × Value → H} {P : Program} (hl : laidOutB P = true) {W W' : World} (hb : Below W.heap.size W W') (sp : Nat → Bool) :
  ∀ (ts : List TypeId) (vs : List Value) (ds : List (DataW H)) (ps : List MemPlace), (ts.all fun t => P.readableRec t && decide (t < P.types.size)) = true → (∀ x ∈ ps, x.block < W.heap.size) → (∀ x ∈ ps, sp x.block = true) →
   DataW.TrodAll enc P W 0 (fun _ => true) true ts vs ds ps → DataW.TrodAll enc P W' 0 sp true ts vs ds ps
 | [], [], [], _, _, _, _, h => h
 | t :: ts, v :: vs, d :: ds, _, ht, hlt, hsp, h => by
  obtain ⟨p, q, h1, h2, rfl⟩ := h
  simp only [List.all_cons, Bool.and_eq_true, decide_eq_true_eq] at ht
  exact ⟨p, q, WideElems.Trod_stays hl ht.1.1 ht.1.2 h1 (fun x hx => hb.same (hlt x (List.mem_append_left _ hx))) (fun x hx => hsp x (List.mem_append_left _ hx)),
   all_stay hl hb sp ts vs ds q (by simpa using ht.2) (fun x hx => hlt x (List.mem_append_right _ hx)) (fun x hx => hsp x (List.mem_append_right _ hx)) h2, rfl⟩
 | [], [], _ :: _, _, _, _, _, h => h.elim
 | [], _ :: _, _, _, _, _, _, h => by cases ‹List (DataW H)› <;> exact h.elim
 | _ :: _, [], _, _, _, _, _, h => by cases ‹List (DataW H)› <;> exact h.elim
 | _ :: _, _ :: _, [], _, _, _, _, h => h.elim
theorem post_law {H : Type} {enc : TypeId × Value → H} {P : Program} {f : Func} {s : ChangeSpec} {apart fresh handsOn again : Bool} {W W' : World} {args : Array Value} {ds gs : List (DataW H)} {before : List MemPlace}
  (hl : laidOutB P = true) (ht : (f.params.toList.all fun t => P.readableRec t && decide (t < P.types.size)) = true) (hv : s.vars = []) (t : TypeId) (hf : f.resultTypes = #[t]) (hu : P.underlying t = some .bool)
  (hW : DataW.Whole enc P f.params.toList s.vars apart W args.toList ds gs before)
  (hA : DataW.TrodAll enc P W 0 (fun _ => true) true f.params.toList args.toList ds before)
  (hres : (s.fn H (ds ++ gs)).results = [.lit (.bool true)]) (hargs : (s.fn H (ds ++ gs)).args = ds) (hvs : (s.fn H (ds ++ gs)).vars = []) (hb : Below W.heap.size W W') :
  s.post enc P f apart fresh handsOn again W args (.bool true) W' := by
 have hlt : ∀ x ∈ before, x.block < W.heap.size := fun x hx => hW.lt x hx
 refine post_kept (pa := before) (pv := []) hW (fun _ _ _ => ?_) (fun sp hsp => ?_) (fun sp _ => ?_) (by simp) hb ?_
 ·rw [hres, hf]
  exact trodAll_cons_mk (shut_bool hu _) trodAll_mk0
 ·rw [hargs]
  exact all_stay hl hb sp _ _ _ _ ht hlt hsp hA
 ·rw [hvs, hv]
  rfl
 ·exact ok_one hf rfl (okWide_bool_mk hu _)
end Go.Proofs.YticmnfmijdgmbaaGreatDoor
