/- The walk of TableLonger. -/
import Derived.Test.YticmnfmijdgmbaaGreatDoorZt
import Derived.Below
import Derived.ChangeSame
import Derived.Carry
import Derived.OpenShut
namespace Go.Proofs.YticmnfmijdgmbaaGreatDoor
open Go Go.RowKit Go.Lib
open X14 (It exG closeX iterB BuiltOk BuiltMany rightX behX sortX)
open S13 (u64 bitN top E0 F0 Sub hasN)
open S16
open S13.X15 (Pl LeastA askX places cxB)
set_option linter.unusedVariables false
set_option linter.unusedSimpArgs false
theorem run_push_ints {w : World} {B : Nat} {v lv : Value} {n : Nat} {xs : List Value} {l : List Int} (hown : ownsT w B 1 v n xs) (hl : IntsAt w lv l) (hn : n + l.length ≤ 1000) (hB : B ≤ w.heap.size) :
  ∃ v' w', (Builtin.append_ #[43, 43] 43 #[v, lv]).run Tryz.prog w = .ok v' w' ∧ ownsT w' B 1 v' (n + l.length) (xs ++ l.map fun z => .int .i64 z) ∧ Below B w w' := by
 obtain ⟨i, hi, hz, hs, hbi⟩ := info_parts info3
 have ht := Tryz.underlying43
 have hxl := hown.1
 obtain ⟨⟨lo, lc, rfl, _, hlx⟩, _⟩ := hl
 by_cases h0 : l = []
 ·subst h0
  have hsrc : Src Tryz.prog i.size 43 (.slice lo 0 lc) 0 [] w := by
   cases lo with
   | none => exact Src.ofNil w ht lc
   | some a => exact Src.ofSlice w ht a 0 lc [] (by simp) (fun j u hj => by simp at hj) (fun u hu => by cases hu)
  have hres : ∀ (base : Option Addr) (cap : Nat), v = .slice base n cap → n ≤ cap → ∃ v' w', (Builtin.append_ #[43, 43] 43 #[v, .slice lo 0 lc]).run Tryz.prog w = .ok v' w' ∧ ownsT w' B 1 v' (n + 0) (xs ++ []) ∧ Below B w w' := fun base cap e hc => by
   have hr := run_append_nothing (P := Tryz.prog) w 43 43 43 3 i ht hi base n cap hc (.slice lo 0 lc) hsrc
   subst e
   exact ⟨_, _, hr, by rw [List.append_nil]; exact hown, Below.refl _ _⟩
  obtain ⟨_, ⟨rfl, rfl⟩ | ⟨g, off, cap, rfl, _, _, h1, _⟩⟩ := id hown
  ·exact hres none 0 rfl (Nat.le_refl _)
  ·exact hres _ cap rfl h1
 have hpos : 0 < l.length := List.length_pos_iff.2 h0
 obtain ⟨lb, lf, rfl, hlc⟩ := hlx hpos
 obtain ⟨qs, hqs⟩ : ∃ qs, l.map (fun z => Value.int .i64 z) = qs := ⟨_, rfl⟩
 obtain ⟨M, hM⟩ : ∃ M, l.length = M := ⟨_, rfl⟩
 have hql : qs.length = M := by rw [← hqs, List.length_map, hM]
 have hsrc : Src Tryz.prog i.size 43 (.slice (some ⟨lb, lf, none⟩) M lc) M qs w := Src.ofSlice w ht ⟨lb, lf, none⟩ M lc qs (by rw [hs, hql, Nat.mul_one]) (fun j u hj => by
  have : (⟨lb, lf, none⟩ : Addr).add j = ⟨lb, lf + j, none⟩ := by unfold Addr.add; split <;> simp_all
  rw [this]
  rw [← hqs, List.getElem?_map] at hj
  cases hz : l[j]? with
  | none => rw [hz] at hj; cases hj
  | some z =>
   rw [hz] at hj
   have hjl := (List.getElem?_eq_some_iff.1 hz).1
   have : w.cell? ⟨lb, lf + j, none⟩ = some (.int .i64 (l.getD j 0)) := hlc j hjl
   rw [List.getD_eq_getElem?_getD, hz] at this
   rw [← Option.some.inj hj]
   exact this) (fun u hu => by
  rw [← hqs] at hu
  obtain ⟨z, _, rfl⟩ := List.mem_map.1 hu
  rfl)
 rw [hM] at hn hpos ⊢
 rw [hqs]
 have grown : ∀ (base : Option Addr) (cap : Nat), cap < n + M → (Builtin.firstCells i.size n (.slice base n cap)).run Tryz.prog w.drew = .ok xs.toArray w.drew → v = .slice base n cap →
   ∃ v' w', (Builtin.append_ #[43, 43] 43 #[v, .slice (some ⟨lb, lf, none⟩) M lc]).run Tryz.prog w = .ok v' w' ∧ ownsT w' B 1 v' (n + M) (xs ++ qs) ∧ Below B w w' := by
  intro base cap hc hold hv
  have hr := run_append_grow_src (P := Tryz.prog) w 43 43 43 3 i (.int .i64 0) ht hi hz base n cap xs hold (.slice (some ⟨lb, lf, none⟩) M lc) M qs hsrc hc (by omega) (growslice_fits (by omega) (by
   have : (n + M) * i.bytes ≤ 1000 * 8 := Nat.mul_le_mul hn (by omega)
   omega))
  have hge := grownCap_ge w (n + M) cap 3
  have hcm : grownCap w (n + M) cap 3 ≤ maxLen := grownCap_le_maxLen w (n + M) cap 3 (by unfold maxLen; omega)
  generalize hK : grownCap w (n + M) cap 3 = K at hr hge hcm
  subst hv
  have hblk := heap_alloc_new w.drew (.cells ((xs ++ qs).toArray ++ Builtin.zeroCells (Value.int .i64 0).cells (K - (n + M))) 3)
  have hsize : ((xs ++ qs).toArray ++ Builtin.zeroCells (Value.int .i64 0).cells (K - (n + M))).size = K := by
   simp [size_zeroCells, hxl, hql, Value.cells]
   omega
  refine ⟨_, _, hr, ⟨by rw [List.length_append, hxl, hql]; omega, .inr ⟨w.heap.size, 0, K, rfl, hB, by simp, hge, hcm, fun j u hj => ?_, fun j hj => ?_⟩⟩, ⟨rfl, rfl, rfl, by simp, fun k hk => Below.heap_alloc w.drew _ k (Nat.lt_of_lt_of_le hk hB)⟩⟩
  ·have hjl := (List.getElem?_eq_some_iff.1 hj).1
   rw [Nat.zero_add]
   refine (Lib.cell_of_heap hblk j).trans ?_
   rw [Array.getElem?_append_left (by simpa using hjl)]
   simpa using hj
  ·rw [Nat.zero_add]
   refine ⟨?_, Lib.frozen_of_heap hblk j⟩
   have e1 : (w.drew.alloc (.cells ((xs ++ qs).toArray ++ Builtin.zeroCells (Value.int .i64 0).cells (K - (n + M))) 3)).cell? ⟨w.heap.size, j, none⟩ = _ := Lib.cell_of_heap hblk j
   rw [e1, Array.getElem?_eq_getElem (by rw [hsize]; omega)]
   rfl
 obtain ⟨_, ⟨rfl, rfl⟩ | ⟨gg, off, cap, rfl, hBg, hg, h1, h2, h3, h4⟩⟩ := hown
 ·have hx0 : xs = [] := List.eq_nil_of_length_eq_zero (by omega)
  subst hx0
  exact grown none 0 (by omega) (run_firstCells_none w.drew i.size 0 0 0) rfl
 ·by_cases hroom : n + M ≤ cap
  ·have hin : ∀ j, j < qs.length → (w.cell? ⟨gg, off + n * i.size + j, none⟩).isSome = true := fun j hj => by
    rw [hs, Nat.mul_one, Nat.add_assoc]
    exact (h4 (n + j) (by omega)).1
   have hfr : ∀ j, j < qs.length → w.frozen? ⟨gg, off + n * i.size + j, none⟩ = false := fun j hj => by
    rw [hs, Nat.mul_one, Nat.add_assoc]
    exact (h4 (n + j) (by omega)).2
   have hr := run_append_room_src (P := Tryz.prog) w 43 43 43 3 i ht hi gg off n cap (.slice (some ⟨lb, lf, none⟩) M lc) M qs hsrc hroom hin hfr
   have hsz : (w.setCells gg (off + n * i.size) qs).heap.size = w.heap.size := by
    have : ∀ (vs : List Value) (o : Nat) (w : World), (w.setCells gg o vs).heap.size = w.heap.size := fun vs => by
     induction vs with
     | nil => intro o w; rfl
     | cons a l ih => intro o w; show ((w.setCell ⟨gg, o, none⟩ a).setCells gg (o + 1) l).heap.size = _; rw [ih]; simp
    exact this _ _ _
   have htp : (w.setCells gg (off + n * i.size) qs).tape = w.tape := by
    have : ∀ (vs : List Value) (o : Nat) (w : World), (w.setCells gg o vs).tape = w.tape := fun vs => by
     induction vs with
     | nil => intro o w; rfl
     | cons a l ih => intro o w; show ((w.setCell ⟨gg, o, none⟩ a).setCells gg (o + 1) l).tape = _; rw [ih]; rfl
    exact this _ _ _
   refine ⟨_, _, hr, ⟨by rw [List.length_append, hxl, hql]; omega, .inr ⟨gg, off, cap, rfl, hBg, by rw [hsz]; exact hg, hroom, h2, fun j u hj => ?_, fun j hj => ?_⟩⟩, ⟨World.os_setCells _ _ _ _, htp, World.output_setCells _ _ _ _, by rw [hsz]; exact Nat.le_refl _, fun k hk => World.heap_setCells_other w gg _ qs (by omega) (by omega)⟩⟩
   ·by_cases hjl : j < xs.length
    ·rw [World.cell?_setCells_out gg qs (off + n * i.size) w ⟨gg, off + j, none⟩ (fun _ _ => .inl (by show off + j < _; rw [hs]; omega))]
     rw [List.getElem?_append_left hjl] at hj
     exact h3 j u hj
    ·rw [List.getElem?_append_right (by omega)] at hj
     have hjq := (List.getElem?_eq_some_iff.1 hj).1
     have := World.cell?_setCells_in gg qs (off + n * i.size) w hin (j - xs.length) hjq
     have e1 : off + n * i.size + (j - xs.length) = off + j := by rw [hs]; omega
     rw [e1] at this
     rw [this]
     rw [← hj, List.getElem?_eq_getElem hjq]
   ·rw [World.frozen?_setCells]
    refine ⟨?_, (h4 j hj).2⟩
    by_cases hin2 : n ≤ j ∧ j < n + qs.length
    ·have := World.cell?_setCells_in gg qs (off + n * i.size) w hin (j - n) (by omega)
     have e1 : off + n * i.size + (j - n) = off + j := by rw [hs]; omega
     rw [e1] at this
     rw [this]; rfl
    ·rw [World.cell?_setCells_out gg qs (off + n * i.size) w ⟨gg, off + j, none⟩ (fun _ _ => by show off + j < _ ∨ _ ≤ off + j; rw [hs]; omega)]
     exact (h4 j hj).1
  ·refine grown _ cap (by omega) (run_firstCells_some w.drew i.size n ⟨gg, off, none⟩ n cap xs (by rw [hs]; exact hxl) fun j u hu => ?_) rfl
   rw [show (⟨gg, off, none⟩ : Addr).add j = ⟨gg, off + j, none⟩ by unfold Addr.add; split <;> simp_all]
   exact h3 j u hu
theorem wpList_push_ints {ops : Array Oper} {rest : List Oper} {o : Oper} {a : Act} {w : World} {B : Nat} {Q : Exit → Act → World → Prop} (hgd : o.guard = none) (s x : Operand) (ho : o.op = .call { callee := .builtin .append, args := #[s, x], argTypes := #[43, 43] }) (hty : o.type = 43)
  (v lv : Value) (n : Nat) (xs : List Value) (l : List Int) (hs : a.eval s = v) (hx : a.eval x = lv) (hown : ownsT w B 1 v n xs) (hl : IntsAt w lv l) (hn : n + l.length ≤ 1000) (hB : B ≤ w.heap.size)
  (h : ∀ v' w', ownsT w' B 1 v' (n + l.length) (xs ++ l.map fun z => .int .i64 z) → Below B w w' → wpList Tryz.prog ops Q rest (a.put o.dst v') w') : wpList Tryz.prog ops Q (o :: rest) a w := by
 refine wpList_plain hgd fun K' hK' => ?_
 obtain ⟨v', w', hr, h2, h3⟩ := run_push_ints hown hl hn hB
 unfold Oper.wp execOp
 simp only [ho, resolve, invoke, builtin, Sem.run_bind, Sem.run_pure, Result.andThen_ok, List.map_toArray, List.map_cons, List.map_nil, hs, hx, hty, hr]
 exact hK' _ _ (h v' w' h2 h3)
theorem longer_runs {M : LR.Mach} {inT : Int → Prop} {l m r q : List Int} {b c : Bool} (h : LR.Runs M inT [0] l b r) (k : LR.Runs M inT [0] (l ++ m) c q) (hacc : b = true → r = []) : (r = [] → l.length ≤ (l ++ m).length - q.length) ∧ (r ≠ [] → b = false ∧ (l ++ m).length - q.length = l.length - r.length ∧ l.length - r.length < l.length) := by
 obtain ⟨h1, h2⟩ := h.longer m
 refine ⟨fun hr => ?_, fun hr => ?_⟩
 ·have := h2 hr c q k
  have h3 := k.left.length_le
  rw [List.length_append] at h3 ⊢
  omega
 ·obtain ⟨e1, e2⟩ := (h1 hr).one k
  have h3 := h.left.length_le
  have h4 : 0 < r.length := List.length_pos_iff.2 hr
  refine ⟨?_, ?_, by omega⟩
  ·cases b with
   | true => exact absurd (hacc rfl) hr
   | false => rfl
  ·rw [← e2, List.length_append, List.length_append]
   omega
set_option maxRecDepth 100000 in
set_option maxHeartbeats 16000000 in
theorem longer16_walk {G : GD} {gv : Value} {w : World} {Bt : Nat} (h : Gram w gv G) {lv mv : Value} {l m : List Int} (hl : IntsAt w lv l) (hm : IntsAt w mv m) (ht : Tab Bt w) (hBt : Bt ≤ w.heap.size) :
  Calls Tryz.prog 13 #[gv, lv, mv] w fun e w' => e = .returned (.bool true) ∧ Below w.heap.size w w' := by
 have HGr := hid h
 have HT := hid ht
 obtain ⟨tv, ov, sv, pv, tf, rv, h⟩ := h
 have HGA := hid h
 have hgv := h.eq
 subst hgv
 obtain ⟨W1, e1⟩ : ∃ W1, w.alloc (.cells #[tv, ov, sv, pv, .int .i64 G.start] 27) = W1 := ⟨_, rfl⟩
 have hb1 : Below w.heap.size w W1 := by rw [← e1]; exact (Below.refl _ _).alloc (Nat.le_refl _) _
 have n1 : W1.heap[w.heap.size]? = some (.cells #[tv, ov, sv, pv, .int .i64 G.start] 27 (0, 0)) := by rw [← e1]; exact new_block _ _
 have HB1 := hid hb1
 have HN1 := hid n1
 have KW := hid (works16_any W1 (ht.on (hb1.mono hBt)) (Nat.le_trans hBt hb1.size))
 clear h hb1 n1 ht
 have HLI := hid hl
 have HMI := hid hm
 obtain ⟨lo, lc, rfl, _⟩ := id hl.1
 obtain ⟨mo, mc, rfl, _⟩ := id hm.1
 obtain ⟨LN, hLN⟩ : ∃ LN, l.length = LN := ⟨_, rfl⟩
 obtain ⟨MN, hMN⟩ : ∃ MN, m.length = MN := ⟨_, rfl⟩
 rw [hLN] at HLI ⊢
 rw [hMN] at HMI ⊢
 have HLN := hid hLN
 have HMN := hid hMN
 clear hl hm hLN hMN
 go_enter Tryz.func13, Tryz.ntmps13
 go_wp2_with fail
 refine KW.out.mono ?_
 rintro e w2 ⟨rfl, hb2⟩
 have HB2 := hid (HB1.out.trans (hb2.mono HB1.out.size))
 have HN2 := hid ((hb2.block _ (Array.getElem?_eq_some_iff.1 HN1.out).1).trans HN1.out)
 have c0 : w2.cell? ⟨w.heap.size, 0, none⟩ = some (tv) := Lib.cell_of_heap HN2.out 0
 have c1 : w2.cell? ⟨w.heap.size, 1, none⟩ = some (ov) := Lib.cell_of_heap HN2.out 1
 have c2 : w2.cell? ⟨w.heap.size, 2, none⟩ = some (sv) := Lib.cell_of_heap HN2.out 2
 have c3 : w2.cell? ⟨w.heap.size, 3, none⟩ = some (pv) := Lib.cell_of_heap HN2.out 3
 have c4 : w2.cell? ⟨w.heap.size, 4, none⟩ = some (.int .i64 G.start) := Lib.cell_of_heap HN2.out 4
 have KF := hid (Little_any (HGr.out.below HB2.out))
 clear hb2 KW e1
 go_wp2_with fail
 refine KF.out.mono ?_
 rintro e w3 ⟨fw, rfl, hb3⟩
 have HB3 := hid (HB2.out.trans (hb3.mono HB2.out.size))
 have HN3 := hid ((hb3.block _ (Array.getElem?_eq_some_iff.1 HN2.out).1).trans HN2.out)
 clear hb3 KF c0 c1 c2 c3 c4
 cases fw
 ·go_wp2_with fail
  go_ret
  exact ⟨rfl, HB3.out⟩
 by_cases hl8 : 8 < LN
 ·have g0 : (8 : Int) < (LN : Int) := by omega
  have g1 : decide ((8 : Int) < (LN : Int)) = true := decide_eq_true g0
  have g2 : decide (8 < LN) = true := decide_eq_true hl8
  go_wp2_with fail
  go_ret
  exact ⟨rfl, HB3.out⟩
 have g0 : ¬ (8 : Int) < (LN : Int) := by omega
 have g1 : decide ((8 : Int) < (LN : Int)) = false := decide_eq_false g0
 have g2 : decide (8 < LN) = false := decide_eq_false hl8
 by_cases hm8 : 8 < MN
 ·have g3 : (8 : Int) < (MN : Int) := by omega
  have g4 : decide ((8 : Int) < (MN : Int)) = true := decide_eq_true g3
  have g5 : decide (8 < MN) = true := decide_eq_true hm8
  go_wp2_with fail
  go_ret
  exact ⟨rfl, HB3.out⟩
 have g3 : ¬ (8 : Int) < (MN : Int) := by omega
 have g4 : decide ((8 : Int) < (MN : Int)) = false := decide_eq_false g3
 have g5 : decide (8 < MN) = false := decide_eq_false hm8
 have HL8 := hid (show LN ≤ 8 ∧ MN ≤ 8 from ⟨by omega, by omega⟩)
 have c0 : w3.cell? ⟨w.heap.size, 0, none⟩ = some (tv) := Lib.cell_of_heap HN3.out 0
 have c1 : w3.cell? ⟨w.heap.size, 1, none⟩ = some (ov) := Lib.cell_of_heap HN3.out 1
 have c2 : w3.cell? ⟨w.heap.size, 2, none⟩ = some (sv) := Lib.cell_of_heap HN3.out 2
 have c3 : w3.cell? ⟨w.heap.size, 3, none⟩ = some (pv) := Lib.cell_of_heap HN3.out 3
 have c4 : w3.cell? ⟨w.heap.size, 4, none⟩ = some (.int .i64 G.start) := Lib.cell_of_heap HN3.out 4
 have KB := hid (BuildT_any (HGr.out.below HB3.out) (HT.out.on (HB3.out.mono hBt)) (Nat.le_trans hBt HB3.out.size))
 go_wp2_with fail
 refine KB.out.mono ?_
 rintro e w4 hbp
 obtain ⟨hb4, hcase⟩ := build_cases hbp
 have HB4 := hid (HB3.out.trans (hb4.mono HB3.out.size))
 have HN4 := hid ((hb4.block _ (Array.getElem?_eq_some_iff.1 HN3.out).1).trans HN3.out)
 clear KB c0 c1 c2 c3 c4 hbp
 rcases hcase with ⟨er, her, rfl⟩ | ⟨n, A, dv, nv, mv, hV, hO, hL, hno, rfl, htab⟩
 ·unfold zeroTab
  obtain ⟨Wz, ez⟩ : ∃ z, w4.alloc (.cells #[.slice none 0 0, .slice none 0 0, .slice none 0 0] 96) = z := ⟨_, rfl⟩
  have nez : Wz.heap[w4.heap.size]? = some (.cells #[.slice none 0 0, .slice none 0 0, .slice none 0 0] 96 (0, 0)) := by rw [← ez]; exact new_block _ _
  have xn0 : Wz.heap[w4.heap.size]? = some (.cells #[.slice none 0 0, .slice none 0 0, .slice none 0 0] 96 (0, 0)) := nez
  have xc0 : Wz.cell? ⟨w4.heap.size, 0, none⟩ = some (.slice none 0 0) := Lib.cell_of_heap xn0 0
  have xf0 := Lib.frozen_of_heap xn0 0
  obtain ⟨z1, xe0⟩ : ∃ z, Wz.setCell ⟨w4.heap.size, 0, none⟩ (.slice none 0 0) = z := ⟨_, rfl⟩
  have xn1 : z1.heap[w4.heap.size]? = some (.cells #[.slice none 0 0, .slice none 0 0, .slice none 0 0] 96 (0, 0)) := by rw [← xe0]; exact heap_setCell_same _ _ 0 _ 96 _ xn0
  have xc1 : z1.cell? ⟨w4.heap.size, 1, none⟩ = some (.slice none 0 0) := Lib.cell_of_heap xn1 1
  have xf1 := Lib.frozen_of_heap xn1 1
  obtain ⟨z2, xe1⟩ : ∃ z, z1.setCell ⟨w4.heap.size, 1, none⟩ (.slice none 0 0) = z := ⟨_, rfl⟩
  have xn2 : z2.heap[w4.heap.size]? = some (.cells #[.slice none 0 0, .slice none 0 0, .slice none 0 0] 96 (0, 0)) := by rw [← xe1]; exact heap_setCell_same _ _ 1 _ 96 _ xn1
  have xc2 : z2.cell? ⟨w4.heap.size, 2, none⟩ = some (.slice none 0 0) := Lib.cell_of_heap xn2 2
  have xf2 := Lib.frozen_of_heap xn2 2
  obtain ⟨z3, xe2⟩ : ∃ z, z2.setCell ⟨w4.heap.size, 2, none⟩ (.slice none 0 0) = z := ⟨_, rfl⟩
  have xn3 : z3.heap[w4.heap.size]? = some (.cells #[.slice none 0 0, .slice none 0 0, .slice none 0 0] 96 (0, 0)) := by rw [← xe2]; exact heap_setCell_same _ _ 2 _ 96 _ xn2
  have HBBx := hid (show Below w4.heap.size w4 z3 from by
   rw [← xe2, ← xe1, ← xe0, ← ez]
   exact ((((Below.refl _ _).alloc (Nat.le_refl _) _).setCell (Nat.le_refl _) _).setCell (Nat.le_refl _) _).setCell (Nat.le_refl _) _)
  have HNBx := hid xn3
  clear nez xn0 xn1 xn2 xn3
  rcases her with rfl | rfl | rfl
  ·go_wp2_with fail
   go_ret
   exact ⟨rfl, HB4.out.trans (HBBx.out.mono HB4.out.size)⟩
  ·go_wp2_with fail
   go_ret
   exact ⟨rfl, HB4.out.trans (HBBx.out.mono HB4.out.size)⟩
  ·go_wp2_with fail
   go_ret
   exact ⟨rfl, HB4.out.trans (HBBx.out.mono HB4.out.size)⟩
 have HTB := hid htab
 obtain ⟨dvo, dvc, nvo, nvc, mvo, mvc, rfl, rfl, rfl, ht1, ht2, ht3⟩ := tab_parts htab
 have HH := hid (show validB G = true ∧ BuiltOk G n ∧ LA G n A ∧ clX (cntS (dS G n A)) (G.terms.length + 1) n = [] from ⟨hV, hO, hL, hno⟩)
 have HTP := hid (And.intro ht1 (And.intro ht2 ht3))
 clear hV hO hL hno htab ht1 ht2 ht3
 obtain ⟨Wz, ez⟩ : ∃ z, w4.alloc (.cells #[.slice none 0 0, .slice none 0 0, .slice none 0 0] 96) = z := ⟨_, rfl⟩
 have nez : Wz.heap[w4.heap.size]? = some (.cells #[.slice none 0 0, .slice none 0 0, .slice none 0 0] 96 (0, 0)) := by rw [← ez]; exact new_block _ _
 have xn0 : Wz.heap[w4.heap.size]? = some (.cells #[.slice none 0 0, .slice none 0 0, .slice none 0 0] 96 (0, 0)) := nez
 have xc0 : Wz.cell? ⟨w4.heap.size, 0, none⟩ = some (.slice none 0 0) := Lib.cell_of_heap xn0 0
 have xf0 := Lib.frozen_of_heap xn0 0
 obtain ⟨z1, xe0⟩ : ∃ z, Wz.setCell ⟨w4.heap.size, 0, none⟩ (.slice dvo n dvc) = z := ⟨_, rfl⟩
 have xn1 : z1.heap[w4.heap.size]? = some (.cells #[.slice dvo n dvc, .slice none 0 0, .slice none 0 0] 96 (0, 0)) := by rw [← xe0]; exact heap_setCell_same _ _ 0 _ 96 _ xn0
 have xc1 : z1.cell? ⟨w4.heap.size, 1, none⟩ = some (.slice none 0 0) := Lib.cell_of_heap xn1 1
 have xf1 := Lib.frozen_of_heap xn1 1
 obtain ⟨z2, xe1⟩ : ∃ z, z1.setCell ⟨w4.heap.size, 1, none⟩ (.slice nvo n nvc) = z := ⟨_, rfl⟩
 have xn2 : z2.heap[w4.heap.size]? = some (.cells #[.slice dvo n dvc, .slice nvo n nvc, .slice none 0 0] 96 (0, 0)) := by rw [← xe1]; exact heap_setCell_same _ _ 1 _ 96 _ xn1
 have xc2 : z2.cell? ⟨w4.heap.size, 2, none⟩ = some (.slice none 0 0) := Lib.cell_of_heap xn2 2
 have xf2 := Lib.frozen_of_heap xn2 2
 obtain ⟨w5, xe2⟩ : ∃ z, z2.setCell ⟨w4.heap.size, 2, none⟩ (.slice mvo n mvc) = z := ⟨_, rfl⟩
 have xn3 : w5.heap[w4.heap.size]? = some (.cells #[.slice dvo n dvc, .slice nvo n nvc, .slice mvo n mvc] 96 (0, 0)) := by rw [← xe2]; exact heap_setCell_same _ _ 2 _ 96 _ xn2
 have HBBx := hid (show Below w4.heap.size w4 w5 from by
  rw [← xe2, ← xe1, ← xe0, ← ez]
  exact ((((Below.refl _ _).alloc (Nat.le_refl _) _).setCell (Nat.le_refl _) _).setCell (Nat.le_refl _) _).setCell (Nat.le_refl _) _)
 have HNBx := hid xn3
 clear nez xn0 xn1 xn2 xn3
 have HB5 := hid (HB4.out.trans (HBBx.out.mono HB4.out.size))
 have HN5 := hid ((HBBx.out.block _ (Array.getElem?_eq_some_iff.1 HN4.out).1).trans HN4.out)
 have HBX := hid (show ∀ w', Below w5.heap.size w5 w' → w'.cell? ⟨w4.heap.size, 0, none⟩ = some (.slice dvo n dvc) ∧ w'.cell? ⟨w4.heap.size, 1, none⟩ = some (.slice nvo n nvc) ∧ w'.cell? ⟨w4.heap.size, 2, none⟩ = some (.slice mvo n mvc) from fun w' hC => ⟨cell_below hC (Lib.cell_of_heap HNBx.out 0), cell_below hC (Lib.cell_of_heap HNBx.out 1), cell_below hC (Lib.cell_of_heap HNBx.out 2)⟩)
 obtain ⟨b, r, hrun⟩ := runs_some HH.out.1 HH.out.2.1 HH.out.2.2.1 HH.out.2.2.2 l
 obtain ⟨c, q, hrun2⟩ := runs_some HH.out.1 HH.out.2.1 HH.out.2.2.1 HH.out.2.2.2 (l ++ m)
 have HR1 := hid hrun
 have HR2 := hid hrun2
 have HMA := hid (longer_runs hrun hrun2 (fun hb => by
  subst hb
  exact (LR.runs_der (machine_ok HH.out.1 HH.out.2.1 HH.out.2.2.1 (fun i k hi hk => clX_none HH.out.2.2.2 i k hi (by omega))) (fun h => by have := (S13.valid_few HH.out.1).1; omega) hrun).1))
 clear hrun hrun2 g0 g1 g2 g3 g4 g5 hl8 hm8
 obtain ⟨q0, q1, q2⟩ := HBX.out w5 (Below.refl _ _)
 have c0 : w5.cell? ⟨w.heap.size, 0, none⟩ = some (tv) := Lib.cell_of_heap HN5.out 0
 have c1 : w5.cell? ⟨w.heap.size, 1, none⟩ = some (ov) := Lib.cell_of_heap HN5.out 1
 have c2 : w5.cell? ⟨w.heap.size, 2, none⟩ = some (sv) := Lib.cell_of_heap HN5.out 2
 have c3 : w5.cell? ⟨w.heap.size, 3, none⟩ = some (pv) := Lib.cell_of_heap HN5.out 3
 have c4 : w5.cell? ⟨w.heap.size, 4, none⟩ = some (.int .i64 G.start) := Lib.cell_of_heap HN5.out 4
 have KR := hid (Run_any (HGr.out.below HB5.out) (HT.out.on (HB5.out.mono hBt)) (Nat.le_trans hBt HB5.out.size) HH.out.1 HH.out.2.1 HH.out.2.2.1 HH.out.2.2.2 (HTB.out.below HBBx.out) (HLI.out.mono HB5.out) (by have := HL8.out; rw [HLN.out]; omega) HR1.out)
 rw [HLN.out] at KR
 go_wp2_with fail
 refine KR.out.mono ?_
 rintro e w6 ⟨rfl, hb6⟩
 obtain ⟨R1, hR1⟩ : ∃ R1, LN - r.length = R1 := ⟨_, rfl⟩
 rw [hR1]
 have HE1 := hid hR1
 have HB6 := hid (HB5.out.trans (hb6.mono HB5.out.size))
 have HN6 := hid ((hb6.block _ (Array.getElem?_eq_some_iff.1 HN5.out).1).trans HN5.out)
 have HX6 := hid hb6
 clear xc0 xf0 xc1 xf1 xc2 xf2 xe0 xe1 xe2 ez c0 c1 c2 c3 c4 q0 q1 q2 KR hb6 hR1
 have HO0 := hid (ownsT.nil w6 w6.heap.size 1)
 have HLI6 := hid (HLI.out.mono HB6.out)
 have HLE := hid (show 0 + l.length ≤ 1000 from by rw [HLN.out]; have := HL8.out; omega)
 go_wp2_with (refine wpList_push_ints rfl (.tmp 49) (.tmp 50) rfl rfl (.slice none 0 0) (.slice lo LN lc) 0 [] l rfl rfl HO0.out HLI6.out HLE.out (Nat.le_refl _) ?_)
 intro v7 w7 hown7 hb7
 rw [HLN.out] at hown7
 obtain ⟨o7, c7, rfl⟩ := hown7.shape
 have HB7 := hid (HB6.out.trans (hb7.mono HB6.out.size))
 have HOW := hid hown7
 have HX7 := hid (HX6.out.trans (hb7.mono HX6.out.size))
 have HS7 := hid hb7.size
 have HMI7 := hid (HMI.out.mono HB7.out)
 have HLE2 := hid (show LN + m.length ≤ 1000 from by rw [HMN.out]; have := HL8.out; omega)
 have HY7 := hid hb7
 clear hown7 hb7
 go_wp2_with (refine wpList_push_ints rfl (.tmp 52) (.tmp 53) rfl rfl (.slice o7 LN c7) (.slice mo MN mc) LN (l.map fun z => .int .i64 z) m rfl rfl HOW.out HMI7.out HLE2.out HS7.out ?_)
 intro v8 w8 hown8 hb8
 rw [HMN.out] at hown8
 obtain ⟨o8, c8, rfl⟩ := hown8.shape
 have HB8 := hid (HB6.out.trans ((HY7.out.trans hb8).mono HB6.out.size))
 have HX8 := hid (HX6.out.trans ((HY7.out.trans hb8).mono HX6.out.size))
 have HN8 := hid (((HY7.out.trans hb8).block _ (Array.getElem?_eq_some_iff.1 HN6.out).1).trans HN6.out)
 have HLM := hid (show IntsAt w8 (.slice o8 (LN + MN) c8) (l ++ m) from own_ints (B := w6.heap.size) (n := LN + MN) (by rw [List.map_append]; exact hown8) (by rw [List.length_append, HLN.out, HMN.out]) (fun x hx => by
  rcases List.mem_append.1 hx with h1 | h1
  ·exact HLI.out.2 x h1
  ·exact HMI.out.2 x h1))
 obtain ⟨q0, q1, q2⟩ := HBX.out w8 HX8.out
 have c0 : w8.cell? ⟨w.heap.size, 0, none⟩ = some (tv) := Lib.cell_of_heap HN8.out 0
 have c1 : w8.cell? ⟨w.heap.size, 1, none⟩ = some (ov) := Lib.cell_of_heap HN8.out 1
 have c2 : w8.cell? ⟨w.heap.size, 2, none⟩ = some (sv) := Lib.cell_of_heap HN8.out 2
 have c3 : w8.cell? ⟨w.heap.size, 3, none⟩ = some (pv) := Lib.cell_of_heap HN8.out 3
 have c4 : w8.cell? ⟨w.heap.size, 4, none⟩ = some (.int .i64 G.start) := Lib.cell_of_heap HN8.out 4
 have KR := hid (Run_any (HGr.out.below HB8.out) (HT.out.on (HB8.out.mono hBt)) (Nat.le_trans hBt HB8.out.size) HH.out.1 HH.out.2.1 HH.out.2.2.1 HH.out.2.2.2 ((HTB.out.below HBBx.out).below HX8.out) HLM.out (by have h1 := HLE2.out; rw [List.length_append, HLN.out]; omega) HR2.out)
 clear hown8 hb8
 go_wp2_with fail
 refine KR.out.mono ?_
 rintro e w9 ⟨rfl, hb9⟩
 obtain ⟨R2, hR2⟩ : ∃ R2, (l ++ m).length - q.length = R2 := ⟨_, rfl⟩
 rw [hR2]
 have HE2 := hid hR2
 have HB9 := hid (HB8.out.trans (hb9.mono HB8.out.size))
 have hrl : r.length ≤ LN := by have := HR1.out.left.length_le; rw [HLN.out] at this; exact this
 have HM := HMA.out
 rw [hR2, HLN.out] at HM
 have hE1 := HE1.out
 rw [hE1] at HM
 clear c0 c1 c2 c3 c4 q0 q1 q2 KR hb9 hR2
 by_cases hr : r = []
 ·have hle := HM.1 hr
  rw [hr, List.length_nil, Nat.sub_zero] at hE1
  subst hE1
  have k0 : (LN : Int) ≤ (R2 : Int) := by omega
  have k1 : decide ((LN : Int) ≤ (R2 : Int)) = true := decide_eq_true k0
  have k2 : decide (LN ≤ R2) = true := decide_eq_true hle
  clear HM hr hrl
  cases b
  ·go_wp2_with fail
   go_ret
   exact ⟨rfl, HB9.out⟩
  ·go_wp2_with fail
   go_ret
   exact ⟨rfl, HB9.out⟩
 ·obtain ⟨hb, hE, hlt⟩ := HM.2 hr
  subst hb
  subst hE
  have k0 : ((R2 : Int) == (LN : Int)) = false := by rw [beq_eq_false_iff_ne]; omega
  have k1 : (R2 == LN) = false := by rw [beq_eq_false_iff_ne]; omega
  have k2 : ¬ (R2 : Int) = (LN : Int) := by omega
  clear HM hr hrl hE1
  go_wp2_with fail
  go_ret
  exact ⟨rfl, HB9.out⟩
end Go.Proofs.YticmnfmijdgmbaaGreatDoor

/- A law's last step, for a walk that lays new memory alone: whatever lay before the call lies behind it. -/
namespace Go.Proofs.YticmnfmijdgmbaaGreatDoor
open Go Go.RowKit Go.WideShapes Go.ChangeShapes
theorem post_kept {H : Type} {enc : TypeId × Value → H} {P : Program} {f : Func} {s : ChangeSpec} {apart fresh handsOn again : Bool} {W W' : World} {args : Array Value} {v : Value} {ds gs : List (DataW H)} {before pa pv : List MemPlace}
  (hW : DataW.Whole enc P f.params.toList s.vars apart W args.toList ds gs before)
  (hres : ∀ (b : Nat) (sp : Nat → Bool) (hd : Bool), DataW.TrodAll enc P W' b sp hd f.resultTypes.toList (v.resultList f.resultTypes.size) (s.fn H (ds ++ gs)).results [])
  (hargs : ∀ sp : Nat → Bool, (∀ p ∈ before, sp p.block = true) → DataW.TrodAll enc P W' 0 sp true f.params.toList args.toList (s.fn H (ds ++ gs)).args pa)
  (hvars : ∀ sp : Nat → Bool, (∀ p ∈ before, sp p.block = true) → DataW.TrodVars enc P W' sp s.vars (s.fn H (ds ++ gs)).vars pv)
  (hps : before = pa ++ pv) (hb : Below W.heap.size W W')
  (hok : ∀ (j : Nat) (t : TypeId) (r : Value), f.resultTypes[j]? = some t → (v.resultList f.resultTypes.size)[j]? = some r → Value.okWide P W' .any 0 t r) :
  s.post enc P f apart fresh handsOn again W args v W' := by
 have old : ∀ p ∈ before, decide (p.block < W.heap.size) = true := fun p hp => decide_eq_true (hW.lt p hp)
 have inside : ∀ p, p ∈ pa ++ pv → p ∈ before := fun p hp => by rw [hps]; exact hp
 refine ⟨ds, gs, before, [], pa, pv, hW, hres _ _ _, hargs _ old, hvars _ old, World.keptBut_mono (fun p hp => ⟨hp, ?_⟩) (hb.frame (· ∈ before)), fun _ => ⟨hok, _, _, [] ++ pa ++ pv, ⟨[] ++ pa, pv, trodAll_append (hargs _ fun _ _ => rfl) (hres _ _ _), hvars _ fun _ _ => rfl, rfl, ?_, ?_⟩, ?_⟩⟩
 ·exact .inr (List.mem_append.1 (hps ▸ hp))
 ·intro b off hp
  have hW0 := hW
  obtain ⟨_, _, _, _, _, hz, _⟩ := hW
  have hin := inside _ (by simpa using hp)
  exact (hb.frozen (p := ⟨b, off, none⟩) (hW0.lt _ hin)).trans (hz b off hin)
 ·intro ha
  obtain ⟨_, _, _, _, _, _, hn⟩ := hW
  simpa [hps] using hn ha
 ·intro p hp _
  exact inside p (by simpa using hp)
end Go.Proofs.YticmnfmijdgmbaaGreatDoor

/- A law's last step, whatever the types of its parameters. -/
namespace Go.Proofs.YticmnfmijdgmbaaGreatDoor
open Go Go.RowKit Go.WideShapes Go.ChangeShapes
theorem all_stay {H : Type} {enc : TypeId × Value → H} {P : Program} (hl : laidOutB P = true) {W W' : World} (hb : Below W.heap.size W W') (sp : Nat → Bool) :
  ∀ (ts : List TypeId) (vs : List Value) (ds : List (DataW H)) (ps : List MemPlace), (ts.all fun t => P.readableRec t && decide (t < P.types.size)) = true → (∀ x ∈ ps, x.block < W.heap.size) → (∀ x ∈ ps, sp x.block = true) →
   DataW.TrodAll enc P W 0 (fun _ => true) true ts vs ds ps → DataW.TrodAll enc P W' 0 sp true ts vs ds ps
 | [], [], [], _, _, _, _, h => h
 | t :: ts, v :: vs, d :: ds, _, ht, hlt, hsp, h => by
  obtain ⟨p, q, h1, h2, rfl⟩ := h
  simp only [List.all_cons, Bool.and_eq_true, decide_eq_true_eq] at ht
  exact ⟨p, q, WideElems.Trod_stays hl ht.1.1 ht.1.2 h1 (fun x hx => hb.same (hlt x (List.mem_append_left _ hx))) (fun x hx => hsp x (List.mem_append_left _ hx)),
   all_stay hl hb sp ts vs ds q (by simpa using ht.2) (fun x hx => hlt x (List.mem_append_right _ hx)) (fun x hx => hsp x (List.mem_append_right _ hx)) h2, rfl⟩
 | [], [], _ :: _, _, _, _, _, h => h.elim
 | [], _ :: _, _, _, _, _, _, h => by cases ‹List (DataW H)› <;> exact h.elim
 | _ :: _, [], _, _, _, _, _, h => by cases ‹List (DataW H)› <;> exact h.elim
 | _ :: _, _ :: _, [], _, _, _, _, h => h.elim
theorem post_law {H : Type} {enc : TypeId × Value → H} {P : Program} {f : Func} {s : ChangeSpec} {apart fresh handsOn again : Bool} {W W' : World} {args : Array Value} {ds gs : List (DataW H)} {before : List MemPlace}
  (hl : laidOutB P = true) (ht : (f.params.toList.all fun t => P.readableRec t && decide (t < P.types.size)) = true) (hv : s.vars = []) (t : TypeId) (hf : f.resultTypes = #[t]) (hu : P.underlying t = some .bool)
  (hW : DataW.Whole enc P f.params.toList s.vars apart W args.toList ds gs before)
  (hA : DataW.TrodAll enc P W 0 (fun _ => true) true f.params.toList args.toList ds before)
  (hres : (s.fn H (ds ++ gs)).results = [.lit (.bool true)]) (hargs : (s.fn H (ds ++ gs)).args = ds) (hvs : (s.fn H (ds ++ gs)).vars = []) (hb : Below W.heap.size W W') :
  s.post enc P f apart fresh handsOn again W args (.bool true) W' := by
 have hlt : ∀ x ∈ before, x.block < W.heap.size := fun x hx => hW.lt x hx
 refine post_kept (pa := before) (pv := []) hW (fun _ _ _ => ?_) (fun sp hsp => ?_) (fun sp _ => ?_) (by simp) hb ?_
 ·rw [hres, hf]
  exact trodAll_cons_mk (shut_bool hu _) trodAll_mk0
 ·rw [hargs]
  exact all_stay hl hb sp _ _ _ _ ht hlt hsp hA
 ·rw [hvs, hv]
  rfl
 ·exact ok_one hf rfl (okWide_bool_mk hu _)
end Go.Proofs.YticmnfmijdgmbaaGreatDoor
