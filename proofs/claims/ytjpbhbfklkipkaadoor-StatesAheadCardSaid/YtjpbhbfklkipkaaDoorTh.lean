/- The walk of StatesAhead. -/
import Derived.Test.YtjpbhbfklkipkaaDoorTf
namespace Go.Proofs.YtjpbhbfklkipkaaDoor
open Go Go.RowKit Go.Lib
open X14 (It closeV stepV stepX closeX behX iterB BuiltOk symsX)
set_option linter.unusedVariables false
set_option linter.unusedSimpArgs false
def comeC (n : Nat) (C : Nat → Bool) : Array Value := (Array.range n).map fun k => .bool (C k)
theorem come_set (n : Nat) (C : Nat → Bool) (t : Nat) : (comeC n C).setIfInBounds t (.bool true) = comeC n (fun k => if k = t then true else C k) := by
  unfold comeC
  refine Array.ext (by simp) fun k h1 h2 => ?_
  have h3 : k < ((Array.range n).map fun k => Value.bool (C k)).size := by simpa using h1
  rw [Array.getElem_setIfInBounds h3, Array.getElem_map, Array.getElem_map, Array.getElem_range]
  by_cases hkt : t = k
  · simp [hkt]
  · have : ¬ k = t := fun e => hkt e.symm
    simp [hkt, this]
theorem come_at {w : World} {b n t : Nat} {C : Nat → Bool} (h : w.heap[b]? = some (.cells (comeC n C) 4 (0, 0))) (ht : t < n) : w.cell? ⟨b, t, none⟩ = some (.bool (C t)) := by
  rw [Lib.cell_of_heap h]
  unfold comeC
  simp [ht]
theorem come_none (n : Nat) : Array.replicate n (Value.bool false) = comeC n (fun _ => false) := by
  unfold comeC
  refine Array.ext (by simp) fun j h1 h2 => by simp
/-- Which states are come to, of the first so many rows. -/
structure ComeX (NX : List (List Int)) (C : Nat → Bool) (i k : Nat) : Prop where
  zero : C 0 = true
  all : ∀ (i' k' : Nat) (R : List Int) (q : Nat), NX[i']? = some R → R[k']? = some (q : Int) → (i' < i ∨ i' = i ∧ k' < k) → C q = true
theorem item_wrap {G : GD} {x : It} {s : Int} (hv : validB G = true) (h1 : 1 ≤ x.2) (h2 : behX G (x.1, x.2 - 1) = some s) : IntKind.i64.wrap (x.2 - 1) = x.2 - 1 ∧ behV G (x.1, x.2 - 1) = some s := by
  obtain ⟨a1, a2, a3, a4⟩ := X14.there_iff.1 (X14.beh_there h2)
  have a5 := X14.right_le hv a1 a2
  dsimp only at a3 a4 a5
  exact ⟨wrap_small (by omega) (by omega), by unfold behV; rw [if_pos hv]; exact h2⟩
theorem ComeX.none_ {NX : List (List Int)} {C : Nat → Bool} {i k : Nat} {R : List Int} (h : ComeX NX C i k) (hR : NX[i]? = some R) (hv : R[k]? = some (-1)) : ComeX NX C i (k + 1) :=
  ⟨h.zero, fun i' k' R' q h1 h2 h3 => by
    rcases h3 with h3 | ⟨rfl, h3⟩
    · exact h.all i' k' R' q h1 h2 (.inl h3)
    · by_cases hk : k' < k
      · exact h.all i' k' R' q h1 h2 (.inr ⟨rfl, hk⟩)
      · obtain rfl : k' = k := by omega
        rw [hR] at h1
        injection h1 with h1
        subst h1
        rw [hv] at h2
        injection h2 with h2
        omega⟩
theorem ComeX.some_ {NX : List (List Int)} {C : Nat → Bool} {i k p : Nat} {R : List Int} (h : ComeX NX C i k) (hR : NX[i]? = some R) (hv : R[k]? = some (p : Int)) : ComeX NX (fun t => if t = p then true else C t) i (k + 1) :=
  ⟨by
    show (if _ then _ else _) = true
    split
    · rfl
    · exact h.zero, fun i' k' R' q h1 h2 h3 => by
    show (if q = p then true else C q) = true
    by_cases hqp : q = p
    · rw [if_pos hqp]
    rw [if_neg hqp]
    rcases h3 with h3 | ⟨rfl, h3⟩
    · exact h.all i' k' R' q h1 h2 (.inl h3)
    · by_cases hk : k' < k
      · exact h.all i' k' R' q h1 h2 (.inr ⟨rfl, hk⟩)
      · obtain rfl : k' = k := by omega
        rw [hR] at h1
        injection h1 with h1
        subst h1
        rw [hv] at h2
        injection h2 with h2
        omega⟩
theorem ComeX.row {NX : List (List Int)} {C : Nat → Bool} {i : Nat} {R : List Int} (h : ComeX NX C i R.length) (hR : NX[i]? = some R) : ComeX NX C (i + 1) 0 :=
  ⟨h.zero, fun i' k' R' q h1 h2 h3 => by
    by_cases hi : i' < i
    · exact h.all i' k' R' q h1 h2 (.inl hi)
    · obtain rfl : i' = i := by omega
      have hRR := h1
      rw [hR] at hRR
      injection hRR with hRR
      subst hRR
      exact h.all i' k' R q h1 h2 (.inr ⟨rfl, (List.getElem?_eq_some_iff.1 h2).1⟩)⟩
set_option maxRecDepth 100000 in
set_option maxHeartbeats 32000000 in
theorem ahead_walk {G : GD} {gv : Value} {w : World} {Bt : Nat} (h : Gram w gv G) (ht : Tab Bt w) (hBt : Bt ≤ w.heap.size) :
    Calls Tryd.prog 6 #[gv] w fun e w' => e = .returned (.bool true) ∧ Below w.heap.size w w' := by
  have HGr := hid h
  have HT := hid ht
  obtain ⟨tv, ov, sv, pv, tf, rv, h⟩ := h
  have hgv := h.eq
  subst hgv
  obtain ⟨to_, tc, rfl, htn, _⟩ := h.terms
  obtain ⟨nt, hnt⟩ : ∃ nt, G.terms.length = nt := ⟨_, rfl⟩
  have HNT := hid hnt
  rw [hnt] at HGr ⊢
  obtain ⟨W1, e1⟩ : ∃ W1, w.alloc (.cells #[.slice to_ nt tc, ov, sv, pv, .int .i64 G.start] 27) = W1 := ⟨_, rfl⟩
  have hb1 : Below w.heap.size w W1 := by rw [← e1]; exact (Below.refl _ _).alloc (Nat.le_refl _) _
  have n1 : W1.heap[w.heap.size]? = some (.cells #[.slice to_ nt tc, ov, sv, pv, .int .i64 G.start] 27 (0, 0)) := by rw [← e1]; exact new_block _ _
  have HB1 := hid hb1
  have HN1 := hid n1
  have KW := hid (works_any W1 (ht.on (hb1.mono hBt)) (Nat.le_trans hBt hb1.size))
  clear h hb1 n1 ht hnt
  go_enter Tryd.func6, Tryd.ntmps6
  go_wp2_with fail
  refine KW.out.mono ?_
  rintro e w2 ⟨rfl, hb2⟩
  have HB2 := hid (HB1.out.trans (hb2.mono HB1.out.size))
  have HN2 := hid ((hb2.block _ (Array.getElem?_eq_some_iff.1 HN1.out).1).trans HN1.out)
  have c0 : w2.cell? ⟨w.heap.size, 0, none⟩ = some (.slice to_ nt tc) := Lib.cell_of_heap HN2.out 0
  have c1 : w2.cell? ⟨w.heap.size, 1, none⟩ = some (ov) := Lib.cell_of_heap HN2.out 1
  have c2 : w2.cell? ⟨w.heap.size, 2, none⟩ = some (sv) := Lib.cell_of_heap HN2.out 2
  have c3 : w2.cell? ⟨w.heap.size, 3, none⟩ = some (pv) := Lib.cell_of_heap HN2.out 3
  have c4 : w2.cell? ⟨w.heap.size, 4, none⟩ = some (.int .i64 G.start) := Lib.cell_of_heap HN2.out 4
  have KF := hid (Little_any (HGr.out.below HB2.out))
  clear hb2 KW e1
  go_wp2_with fail
  refine KF.out.mono ?_
  rintro e w3 ⟨fw, rfl, hb3⟩
  have HB3 := hid (HB2.out.trans (hb3.mono HB2.out.size))
  have HN3 := hid ((hb3.block _ (Array.getElem?_eq_some_iff.1 HN2.out).1).trans HN2.out)
  clear hb3 KF c0 c1 c2 c3 c4
  cases fw
  · go_wp2_with fail
    go_ret
    exact ⟨rfl, HB3.out⟩
  have c0 : w3.cell? ⟨w.heap.size, 0, none⟩ = some (.slice to_ nt tc) := Lib.cell_of_heap HN3.out 0
  have c1 : w3.cell? ⟨w.heap.size, 1, none⟩ = some (ov) := Lib.cell_of_heap HN3.out 1
  have c2 : w3.cell? ⟨w.heap.size, 2, none⟩ = some (sv) := Lib.cell_of_heap HN3.out 2
  have c3 : w3.cell? ⟨w.heap.size, 3, none⟩ = some (pv) := Lib.cell_of_heap HN3.out 3
  have c4 : w3.cell? ⟨w.heap.size, 4, none⟩ = some (.int .i64 G.start) := Lib.cell_of_heap HN3.out 4
  have KB := hid (Build_any (HGr.out.below HB3.out) (HT.out.on (HB3.out.mono hBt)) (Nat.le_trans hBt HB3.out.size))
  go_wp2_with fail
  refine KB.out.mono ?_
  rintro e w4 ⟨hb4, hcase⟩
  have HB4 := hid (HB3.out.trans (hb4.mono HB3.out.size))
  have HN4 := hid ((hb4.block _ (Array.getElem?_eq_some_iff.1 HN3.out).1).trans HN3.out)
  clear hb4 KB c0 c1 c2 c3 c4
  have hcase2 : (∃ er : Int, (er = 1 ∨ er = 4) ∧ e = .returned (.tuple #[.agg #[.slice none 0 0, .slice none 0 0], .int .i64 er])) ∨ (validB G = true ∧ ∃ n, BuiltOk G n ∧ ∃ av, e = .returned (.tuple #[av, .int .i64 0]) ∧ AutAt w4 av (iterB G n).ker (iterB G n).nx) := by
    rcases hcase with ⟨_, h2⟩ | ⟨hv, n, h2 | ⟨h2, h3⟩⟩
    · exact .inl ⟨1, .inl rfl, h2⟩
    · exact .inl ⟨4, .inr rfl, h2.2⟩
    · exact .inr ⟨hv, n, h2, h3⟩
  clear hcase
  rcases hcase2 with ⟨er, her, rfl⟩ | ⟨hval, n, hok, av, rfl, hav⟩
  · obtain ⟨wA, eA⟩ : ∃ wA, w4.alloc (.cells #[.slice none 0 0, .slice none 0 0] 49) = wA := ⟨_, rfl⟩
    have nA : wA.heap[w4.heap.size]? = some (.cells #[.slice none 0 0, .slice none 0 0] 49 (0, 0)) := by rw [← eA]; exact new_block _ _
    have a0 : wA.cell? ⟨w4.heap.size, 0, none⟩ = some (.slice none 0 0) := Lib.cell_of_heap nA 0
    have g0 := Lib.frozen_of_heap nA 0
    obtain ⟨wb, eb⟩ : ∃ wb, wA.setCell ⟨w4.heap.size, 0, none⟩ (.slice none 0 0) = wb := ⟨_, rfl⟩
    have nb : wb.heap[w4.heap.size]? = some (.cells #[.slice none 0 0, .slice none 0 0] 49 (0, 0)) := by rw [← eb]; exact heap_setCell_same _ _ 0 _ 49 _ nA
    have a1 : wb.cell? ⟨w4.heap.size, 1, none⟩ = some (.slice none 0 0) := Lib.cell_of_heap nb 1
    have g1 := Lib.frozen_of_heap nb 1
    obtain ⟨wc, ec⟩ : ∃ wc, wb.setCell ⟨w4.heap.size, 1, none⟩ (.slice none 0 0) = wc := ⟨_, rfl⟩
    have nc : wc.heap[w4.heap.size]? = some (.cells #[.slice none 0 0, .slice none 0 0] 49 (0, 0)) := by rw [← ec]; exact heap_setCell_same _ _ 1 _ 49 _ nb
    have a2 : wc.cell? ⟨w4.heap.size, 0, none⟩ = some (.slice none 0 0) := Lib.cell_of_heap nc 0
    have HBA := hid (show Below w.heap.size w wc from by
      rw [← ec, ← eb, ← eA]
      exact ((HB4.out.alloc HB4.out.size _).setCell HB4.out.size _).setCell HB4.out.size _)
    clear nA nb nc
    rcases her with rfl | rfl
    · go_wp2_with fail
      go_ret
      exact ⟨rfl, HBA.out⟩
    · go_wp2_with fail
      go_ret
      exact ⟨rfl, HBA.out⟩
  have HVAL := hid hval
  have HAV := hid hav
  obtain ⟨hI, hat, hkl⟩ := hok.inv
  have hnl := (X14.iterB_at G n).2
  have hn1 : 0 < n := by
    rcases Nat.eq_zero_or_pos n with e | e
    · subst e
      exact absurd (show 0 < (iterB G 0).ker.length from Nat.one_pos) hok.2
    · exact e
  have hn2 : n ≤ 2000 := by have := hok.1.le; omega
  have HNX := hid (NxOk.built hok)
  have HND := hid hI.kers.nd
  have HRL := hid (show ∀ (i : Nat) R, (iterB G n).nx[i]? = some R → R.length = (symsX G).length from hI.rl)
  have HTO := hid (show ∀ (i k : Nat) (s v : Int) (R : List Int), i < n → (symsX G)[k]? = some s → (iterB G n).nx[i]? = some R → R[k]? = some v → (v = -1 ∧ stepX G (closeX G ((iterB G n).ker.getD i [])) s = []) ∨ ∃ q : Nat, v = (q : Int) ∧ 0 < q ∧ q < n ∧ (iterB G n).ker[q]? = some (stepX G (closeX G ((iterB G n).ker.getD i [])) s) from fun i k s v R h1 h2 h3 h4 => by
    have := hI.to_ (by rw [hat]; exact h1) h2 h3 h4
    rw [hkl] at this
    exact this)
  have HCO := hid (show ∀ q : Nat, 0 < q → q < n → ∃ (i k : Nat) (R : List Int), i < n ∧ (iterB G n).nx[i]? = some R ∧ R[k]? = some (q : Int) from fun q h1 h2 => by
    obtain ⟨i, k, R, a1, a2, a3, a4, _⟩ := hI.come q h1 (by rw [hkl]; exact h2)
    exact ⟨i, k, R, by omega, a3, a4⟩)
  have HKLEN := hid (X14.iter_len hval n)
  generalize (iterB G n).ker = KER at *
  generalize (iterB G n).nx = NX at *
  obtain ⟨kv, nv, rfl, hkv, hnv⟩ := hav
  obtain ⟨ko, kc, rfl, hk63⟩ := hkv.len
  obtain ⟨no, nc, rfl, _⟩ := hnv.len
  have HKV := hid hkv
  have HNV := hid hnv
  have HHK := hid hkl
  have HHN := hid hnl
  rw [hkl] at HAV HKV hk63 ⊢
  rw [hnl] at HAV HNV ⊢
  obtain ⟨wA, eA⟩ : ∃ wA, w4.alloc (.cells #[.slice ko n kc, .slice no n nc] 49) = wA := ⟨_, rfl⟩
  have hbA : Below w4.heap.size w4 wA := by rw [← eA]; exact (Below.refl _ _).alloc (Nat.le_refl _) _
  have nA : wA.heap[w4.heap.size]? = some (.cells #[.slice ko n kc, .slice no n nc] 49 (0, 0)) := by rw [← eA]; exact new_block _ _
  have a0 : wA.cell? ⟨w4.heap.size, 0, none⟩ = some (.slice ko n kc) := Lib.cell_of_heap nA 0
  have HBA := hid (HB4.out.trans (hbA.mono HB4.out.size))
  have HNA := hid ((hbA.block _ (Array.getElem?_eq_some_iff.1 HN4.out).1).trans HN4.out)
  have HAA := hid nA
  have HAVA := hid (HAV.out.below hbA)
  have HKVA := hid (HKV.out.below (q := fun i u => ItemsAt wA u (KER.getD i [])) hbA fun i u hu => hu.below hbA)
  have HNVA := hid (HNV.out.below (q := fun i u => IntsAt wA u (NX.getD i [])) hbA fun i u hu => hu.mono hbA)
  obtain ⟨w5, e5⟩ : ∃ w5, wA.alloc (.cells (Array.replicate n (.bool false)) 4) = w5 := ⟨_, rfl⟩
  have n5 : w5.heap[wA.heap.size]? = some (.cells (comeC n (fun _ => false)) 4 (0, 0)) := by rw [← e5, ← come_none]; exact new_block _ _
  have h5 : Below wA.heap.size wA w5 := by rw [← e5]; exact (Below.refl _ _).alloc (Nat.le_refl _) _
  have MADE := made_bools n (by omega) wA
  rw [e5] at MADE
  obtain ⟨bC, hbC⟩ : ∃ bC, wA.heap.size = bC := ⟨_, rfl⟩
  rw [hbC] at n5 MADE
  have c5 : w5.cell? ⟨bC, 0, none⟩ = some (.bool false) := come_at n5 hn1
  have f5 := Lib.frozen_of_heap n5 0
  have z1 : (0 : Int) < (n : Int) := by omega
  obtain ⟨w6, e6⟩ : ∃ w6, w5.setCell ⟨bC, 0, none⟩ (.bool true) = w6 := ⟨_, rfl⟩
  have HC6 := hid (show w6.heap[bC]? = some (.cells (comeC n (fun k => if k = 0 then true else false)) 4 (0, 0)) from by rw [← e6, ← come_set]; exact heap_setCell_same _ _ 0 _ 4 _ n5)
  have HB6 := hid (show Below wA.heap.size wA w6 from by rw [← e6]; exact h5.setCell (by rw [hbC]; exact Nat.le_refl _) _)
  have HBC := hid hbC
  have HX6 := hid (show ComeX NX (fun k => if k = 0 then true else false) 0 0 from ⟨rfl, fun i' k' R q _ _ hh => by omega⟩)
  clear hbA nA hkv hnv hval hok hI hat hkl hnl n5 h5 hbC
  go_wp2_with fail
  clear MADE c5 f5 e5 e6 eA a0
  go_loopw [8, 9, 10, 11, 12, 13, 14, 15, 16] (fun t8 t9 t10 t11 t12 t13 t14 t15 t16 wr => ∃ (i : Nat) (C : Nat → Bool), i ≤ n ∧ t8 = .int .i64 (i : Int) ∧ Hid (ComeX NX C i 0) ∧ Hid (Below wA.heap.size wA wr) ∧ Hid (wr.heap[bC]? = some (.cells (comeC n C) 4 (0, 0)))) (fun t8 _ _ _ _ _ _ _ _ _ => n - (RowKit.intOf t8).toNat)
  case atStart => exact ⟨0, _, Nat.zero_le _, rfl, HX6, HB6, HC6⟩
  case round =>
    clear HX6 HB6 HC6
    obtain ⟨i, C, hin, rfl, HX, HB, HC⟩ := hrel
    have HAr := hid ((HB.out.block _ (Array.getElem?_eq_some_iff.1 HAA.out).1).trans HAA.out)
    have a0 : wr.cell? ⟨w4.heap.size, 0, none⟩ = some (.slice ko n kc) := Lib.cell_of_heap HAr.out 0
    by_cases hlt : i < n
    · have t1 : (i : Int) < (n : Int) := by omega
      have t2 : (0 : Int) ≤ (i : Int) := by omega
      obtain ⟨kb, kf, u, rfl, u1, u2⟩ := HKVA.out.at_ (k := i) hlt
      have HU1 := hid u1
      have HU2 := hid u2
      obtain ⟨uo, uc, hul, _⟩ := u2.len
      subst hul
      obtain ⟨X, hX⟩ : ∃ X, KER[i]? = some X := ⟨_, List.getElem?_eq_getElem (by rw [HHK.out]; exact hlt)⟩
      have hXd := X14.getD_get (d := ([] : List It)) hX
      rw [hXd] at HU1 HU2
      have hXl := HKLEN.out X (List.mem_of_getElem? hX)
      have HXI := hid hX
      have HXD := hid hXd
      clear u1 u2 hX hXd
      go_wp2_with fail
      go_loopw [9] (fun t9 wr => ∃ j : Nat, j ≤ i ∧ t9 = .int .i64 (j : Int) ∧ Hid (Below wA.heap.size wA wr) ∧ Hid (wr.heap[bC]? = some (.cells (comeC n C) 4 (0, 0)))) (fun t9 _ => i - (RowKit.intOf t9).toNat)
      case atStart => exact ⟨0, Nat.zero_le _, rfl, HB, HC⟩
      case round =>
        clear HB HC HAr a0
        obtain ⟨j, hji, rfl, HB, HC⟩ := hrel
        have HAr := hid ((HB.out.block _ (Array.getElem?_eq_some_iff.1 HAA.out).1).trans HAA.out)
        by_cases hlj : j < i
        · have j1 : (j : Int) < (i : Int) := by omega
          have j0 : (0 : Int) ≤ (j : Int) := by omega
          have j2 : (j : Int) < (n : Int) := by omega
          obtain ⟨kb2, kf2, v, elo, v1, v2⟩ := HKVA.out.at_ (k := j) (by omega)
          injection elo with elo
          injection elo with elb elo
          subst elb
          subst elo
          obtain ⟨vo, vc, hul, _⟩ := v2.len
          subst hul
          obtain ⟨Y, hY⟩ : ∃ Y, KER[j]? = some Y := ⟨_, List.getElem?_eq_getElem (by rw [HHK.out]; omega)⟩
          have hYd := X14.getD_get (d := ([] : List It)) hY
          rw [hYd] at v1 v2
          have hYl := HKLEN.out Y (List.mem_of_getElem? hY)
          have HNE := hid (show ¬ X = Y from fun e => by
            have := (List.getElem?_inj (i := i) (j := j) (by rw [HHK.out]; exact hlt) HND.out).1 (by rw [HXI.out, hY, e])
            omega)
          obtain ⟨we, ewe⟩ : ∃ we, wr.drew = we := ⟨_, rfl⟩
          have hbe : Below wr.heap.size wr we := by rw [← ewe]; exact (Below.refl _ _).drew
          have HBe := hid (HB.out.trans (hbe.mono HB.out.size))
          have HDe := hid hbe
          have HS := hid (show ∀ w', Below we.heap.size we w' → w'.cell? ⟨w4.heap.size, 0, none⟩ = some (.slice (some ⟨kb, kf, none⟩) n kc) ∧ w'.cell? ⟨kb, kf + i, none⟩ = some (.slice uo X.length uc) ∧ w'.cell? ⟨kb, kf + j, none⟩ = some (.slice vo Y.length vc) from fun w' hC => by
            have hh := HBe.out.trans (hC.mono HBe.out.size)
            have nA := (hh.block _ (Array.getElem?_eq_some_iff.1 HAA.out).1).trans HAA.out
            exact ⟨Lib.cell_of_heap nA 0, cell_below hh HU1.out, cell_below hh v1⟩)
          have HH0 := HS.out we (Below.refl _ _)
          have HUe := hid (HU2.out.below HBe.out)
          have HVe := hid (v2.below HBe.out)
          clear hbe hY hYd v1 v2
          go_wp2_with fail
          refine region_T 12 (fun w' => w'.cell? ⟨w4.heap.size, 0, none⟩ = some (.slice (some ⟨kb, kf, none⟩) n kc) ∧ w'.cell? ⟨kb, kf + i, none⟩ = some (.slice uo X.length uc) ∧ w'.cell? ⟨kb, kf + j, none⟩ = some (.slice vo Y.length vc)) (by kernel_rfl) (by rw [ewe]; exact HH0) (fun inv hHeld => ?_)
          rw [ewe]
          clear hHeld ewe
          refine anyT_take (i := 0) (oi := { dst := some 58, op := Go.Op.fieldAddr 49 (Go.Operand.tmp 5) 0, type := 0, pos := "law.go:144", after := #[], guard := none }) (v := ?_) rfl (by kernel_rfl) (by kernel_rfl) (by kernel_rfl) (by decide) (by decide) (by kernel_rfl) (by kernel_rfl) (fun _ _ _ h => h) (Or.inl ⟨by rfl, ?_⟩) HH0 inv (fun inv => ?_)
          rotate_left
          · intro w hSw
            try dsimp only at hSw
            go_simp
            try with_reducible rfl
          simp only [Act.put, List.setIfInBounds_toArray, List.set_cons_zero, List.set_cons_succ]
          refine anyT_take (i := 1) (oi := { dst := some 59, op := Go.Op.load 46 (Go.Operand.tmp 58), type := 46, pos := "law.go:144", after := #[{ on := 0, ground := Go.Ground.data }], guard := none }) (v := ?_) rfl (by kernel_rfl) (by kernel_rfl) (by kernel_rfl) (by decide) (by decide) (by kernel_rfl) (by kernel_rfl) (fun _ _ _ h => h) (Or.inl ⟨by rfl, ?_⟩) HH0 inv (fun inv => ?_)
          rotate_left
          · intro w hSw
            try dsimp only at hSw
            go_simp
            try with_reducible rfl
          simp only [Act.put, List.setIfInBounds_toArray, List.set_cons_zero, List.set_cons_succ]
          refine anyT_take (i := 2) (oi := { dst := some 60, op := Go.Op.move (Go.Operand.tmp 8), type := 3, pos := "law.go:144", after := #[], guard := none }) (v := ?_) rfl (by kernel_rfl) (by kernel_rfl) (by kernel_rfl) (by decide) (by decide) (by kernel_rfl) (by kernel_rfl) (fun _ _ _ h => h) (Or.inl ⟨by rfl, ?_⟩) HH0 inv (fun inv => ?_)
          rotate_left
          · intro w hSw
            try dsimp only at hSw
            go_simp
            try with_reducible rfl
          simp only [Act.put, List.setIfInBounds_toArray, List.set_cons_zero, List.set_cons_succ]
          refine anyT_take (i := 3) (oi := { dst := some 61, op := Go.Op.indexAddr 46 (Go.Operand.tmp 59) (Go.Operand.tmp 60), type := 0, pos := "law.go:144", after := #[{ on := 1, ground := Go.Ground.data }, { on := 2, ground := Go.Ground.data }], guard := none }) (v := ?_) rfl (by kernel_rfl) (by kernel_rfl) (by kernel_rfl) (by decide) (by decide) (by kernel_rfl) (by kernel_rfl) (fun _ _ _ h => h) (Or.inl ⟨by rfl, ?_⟩) HH0 inv (fun inv => ?_)
          rotate_left
          · intro w hSw
            try dsimp only at hSw
            go_simp
            try with_reducible rfl
          simp only [Act.put, List.setIfInBounds_toArray, List.set_cons_zero, List.set_cons_succ]
          refine anyT_take (i := 4) (oi := { dst := some 62, op := Go.Op.load 28 (Go.Operand.tmp 61), type := 28, pos := "law.go:144", after := #[{ on := 3, ground := Go.Ground.data }], guard := none }) (v := ?_) rfl (by kernel_rfl) (by kernel_rfl) (by kernel_rfl) (by decide) (by decide) (by kernel_rfl) (by kernel_rfl) (fun _ _ _ h => h) (Or.inl ⟨by rfl, ?_⟩) HH0 inv (fun inv => ?_)
          rotate_left
          · intro w hSw
            try dsimp only at hSw
            go_simp
            try with_reducible rfl
          simp only [Act.put, List.setIfInBounds_toArray, List.set_cons_zero, List.set_cons_succ]
          refine anyT_take (i := 6) (oi := { dst := some 64, op := Go.Op.fieldAddr 49 (Go.Operand.tmp 5) 0, type := 0, pos := "law.go:144", after := #[], guard := none }) (v := ?_) rfl (by kernel_rfl) (by kernel_rfl) (by kernel_rfl) (by decide) (by decide) (by kernel_rfl) (by kernel_rfl) (fun _ _ _ h => h) (Or.inl ⟨by rfl, ?_⟩) HH0 inv (fun inv => ?_)
          rotate_left
          · intro w hSw
            try dsimp only at hSw
            go_simp
            try with_reducible rfl
          simp only [Act.put, List.setIfInBounds_toArray, List.set_cons_zero, List.set_cons_succ]
          refine anyT_take (i := 7) (oi := { dst := some 65, op := Go.Op.load 46 (Go.Operand.tmp 64), type := 46, pos := "law.go:144", after := #[{ on := 6, ground := Go.Ground.data }], guard := none }) (v := ?_) rfl (by kernel_rfl) (by kernel_rfl) (by kernel_rfl) (by decide) (by decide) (by kernel_rfl) (by kernel_rfl) (fun _ _ _ h => h) (Or.inl ⟨by rfl, ?_⟩) HH0 inv (fun inv => ?_)
          rotate_left
          · intro w hSw
            try dsimp only at hSw
            go_simp
            try with_reducible rfl
          simp only [Act.put, List.setIfInBounds_toArray, List.set_cons_zero, List.set_cons_succ]
          refine anyT_take (i := 8) (oi := { dst := some 66, op := Go.Op.move (Go.Operand.tmp 9), type := 3, pos := "law.go:144", after := #[], guard := none }) (v := ?_) rfl (by kernel_rfl) (by kernel_rfl) (by kernel_rfl) (by decide) (by decide) (by kernel_rfl) (by kernel_rfl) (fun _ _ _ h => h) (Or.inl ⟨by rfl, ?_⟩) HH0 inv (fun inv => ?_)
          rotate_left
          · intro w hSw
            try dsimp only at hSw
            go_simp
            try with_reducible rfl
          simp only [Act.put, List.setIfInBounds_toArray, List.set_cons_zero, List.set_cons_succ]
          refine anyT_take (i := 9) (oi := { dst := some 67, op := Go.Op.indexAddr 46 (Go.Operand.tmp 65) (Go.Operand.tmp 66), type := 0, pos := "law.go:144", after := #[{ on := 7, ground := Go.Ground.data }, { on := 8, ground := Go.Ground.data }], guard := none }) (v := ?_) rfl (by kernel_rfl) (by kernel_rfl) (by kernel_rfl) (by decide) (by decide) (by kernel_rfl) (by kernel_rfl) (fun _ _ _ h => h) (Or.inl ⟨by rfl, ?_⟩) HH0 inv (fun inv => ?_)
          rotate_left
          · intro w hSw
            try dsimp only at hSw
            go_simp
            try with_reducible rfl
          simp only [Act.put, List.setIfInBounds_toArray, List.set_cons_zero, List.set_cons_succ]
          refine anyT_take (i := 10) (oi := { dst := some 68, op := Go.Op.load 28 (Go.Operand.tmp 67), type := 28, pos := "law.go:144", after := #[{ on := 9, ground := Go.Ground.data }], guard := none }) (v := ?_) rfl (by kernel_rfl) (by kernel_rfl) (by kernel_rfl) (by decide) (by decide) (by kernel_rfl) (by kernel_rfl) (fun _ _ _ h => h) (Or.inl ⟨by rfl, ?_⟩) HH0 inv (fun inv => ?_)
          rotate_left
          · intro w hSw
            try dsimp only at hSw
            go_simp
            try with_reducible rfl
          simp only [Act.put, List.setIfInBounds_toArray, List.set_cons_zero, List.set_cons_succ]
          refine anyT_next (i := 5) (o := { dst := some 63, op := Go.Op.call { callee := Go.Callee.value (Go.Operand.func 11), args := #[Go.Operand.tmp 62], argTypes := #[28] }, type := 32, pos := "law.go:144", after := #[{ on := 4, ground := Go.Ground.data }], guard := none }) (by kernel_rfl) rfl (by decide) inv (fun inv K' hK => ?_)
          go_simp
          refine (LRow_any HUe.out (by omega)).mono ?_
          rintro e wf ⟨pv1, rfl, hpv1, hbf⟩
          have HBf := hid hbf
          have HPV := hid (own_items hpv1 (by omega))
          obtain ⟨po, pc, rfl⟩ := own_shape hpv1
          have HH1 := HS.out wf HBf.out
          refine hK.out _ _ HH1 ?_
          clear hK K' HH0 hpv1 hbf
          try simp only [Act.put, List.setIfInBounds_toArray, List.set_cons_zero, List.set_cons_succ]
          refine anyT_next (i := 11) (o := { dst := some 69, op := Go.Op.call { callee := Go.Callee.value (Go.Operand.func 11), args := #[Go.Operand.tmp 68], argTypes := #[28] }, type := 32, pos := "law.go:144", after := #[{ on := 10, ground := Go.Ground.data }, { on := 5, ground := Go.Ground.chain }], guard := none }) (by kernel_rfl) rfl (by decide) inv (fun inv K' hK => ?_)
          go_simp
          refine (LRow_any (HVe.out.below HBf.out) (by omega)).mono ?_
          rintro e wg ⟨pv2, rfl, hpv2, hbg⟩
          have HBg := hid (HBf.out.trans (hbg.mono HBf.out.size))
          have HPV2 := hid (own_items hpv2 (by omega))
          have HPV := hid (HPV.out.below hbg)
          obtain ⟨po2, pc2, rfl⟩ := own_shape hpv2
          have HH0 := HS.out wg HBg.out
          refine hK.out _ _ HH0 ?_
          clear hK K' HH1 hpv2 hbg
          try simp only [Act.put, List.setIfInBounds_toArray, List.set_cons_zero, List.set_cons_succ]
          refine anyT_one (i := 12) (o := { dst := some 70, op := Go.Op.call { callee := Go.Callee.value (Go.Operand.func 14), args := #[Go.Operand.tmp 63, Go.Operand.tmp 69], argTypes := #[32, 32] }, type := 4, pos := "law.go:144", after := #[{ on := 5, ground := Go.Ground.data }, { on := 11, ground := Go.Ground.data }, { on := 11, ground := Go.Ground.chain }], guard := none }) (by kernel_rfl) rfl (fun K' hK => ?_)
          go_simp
          refine (RRow_any HPV.out HPV2.out).mono ?_
          rintro e wh ⟨e9, hbh⟩
          rw [decide_eq_false HNE.out] at e9
          subst e9
          have HBh := hid (HBg.out.trans (hbh.mono HBg.out.size))
          refine hK.out _ _ (fun h => absurd h (by decide)) ?_
          clear hK K' HH0 hbh
          try simp only [Act.put, List.setIfInBounds_toArray, List.set_cons_zero, List.set_cons_succ]
          refine anyT_done (by kernel_rfl) ?_ _
          have HB9 := hid (HBe.out.trans (HBh.out.mono HBe.out.size))
          have HC9 := hid (((HDe.out.trans (HBh.out.mono HDe.out.size)).block _ (Array.getElem?_eq_some_iff.1 HC.out).1).trans HC.out)
          go_wp2_with fail
          refine ⟨⟨j + 1, by omega, rfl, HB9, HC9⟩, ?_⟩
          show i - ((j : Int) + 1).toNat < i - ((j : Int)).toNat
          omega
        · have j1 : ¬ (j : Int) < (i : Int) := by omega
          obtain ⟨nb, nf, ru, rfl, r1, r2⟩ := HNVA.out.at_ (k := i) hlt
          obtain ⟨R, hR⟩ : ∃ R, NX[i]? = some R := ⟨_, List.getElem?_eq_getElem (by rw [HHN.out]; exact hlt)⟩
          rw [X14.getD_get hR] at r2
          obtain ⟨⟨ro, rc, rfl, hrn, hrq⟩, _⟩ := r2
          have HR := hid hR
          have HRQ := hid hrq
          have HR1 := hid r1
          have hRl := HRL.out i R hR
          have HRLL := hid hRl
          have hvp := valid_parts HVAL.out
          rw [X14.symsX_len, HNT.out] at hRl
          have hR120 : R.length ≤ 120 := by rw [hRl]; have := hvp.1; have := hvp.2.1; rw [HNT.out] at *; omega
          clear hR r1 hrq hRl hvp
          go_wp2_with fail
          go_loopw [10, 11, 12, 13, 14, 15, 16] (fun t10 t11 t12 t13 t14 t15 t16 wr => ∃ (k : Nat) (C : Nat → Bool), k ≤ R.length ∧ t10 = .int .i64 (k : Int) ∧ Hid (ComeX NX C i k) ∧ Hid (Below wA.heap.size wA wr) ∧ Hid (wr.heap[bC]? = some (.cells (comeC n C) 4 (0, 0)))) (fun t10 _ _ _ _ _ _ _ => R.length - (RowKit.intOf t10).toNat)
          case atStart => exact ⟨0, C, Nat.zero_le _, rfl, HX, HB, HC⟩
          case round =>
            clear HB HC HX HAr
            obtain ⟨k, C, hk, rfl, HX, HB, HC⟩ := hrel
            have HAr := hid ((HB.out.block _ (Array.getElem?_eq_some_iff.1 HAA.out).1).trans HAA.out)
            have HNr := hid ((HB.out.block _ (Array.getElem?_eq_some_iff.1 HNA.out).1).trans HNA.out)
            have a0 : wr.cell? ⟨w4.heap.size, 0, none⟩ = some (.slice (some ⟨kb, kf, none⟩) n kc) := Lib.cell_of_heap HAr.out 0
            have a1 : wr.cell? ⟨w4.heap.size, 1, none⟩ = some (.slice (some ⟨nb, nf, none⟩) n nc) := Lib.cell_of_heap HAr.out 1
            have q1 := cell_below HB.out HR1.out
            have c0 : wr.cell? ⟨w.heap.size, 0, none⟩ = some (.slice to_ nt tc) := Lib.cell_of_heap HNr.out 0
            have c1 : wr.cell? ⟨w.heap.size, 1, none⟩ = some (ov) := Lib.cell_of_heap HNr.out 1
            have c2 : wr.cell? ⟨w.heap.size, 2, none⟩ = some (sv) := Lib.cell_of_heap HNr.out 2
            have c3 : wr.cell? ⟨w.heap.size, 3, none⟩ = some (pv) := Lib.cell_of_heap HNr.out 3
            have c4 : wr.cell? ⟨w.heap.size, 4, none⟩ = some (.int .i64 G.start) := Lib.cell_of_heap HNr.out 4
            by_cases hlk : k < R.length
            · have k1 : (k : Int) < (R.length : Int) := by omega
              have k0 : (0 : Int) ≤ (k : Int) := by omega
              obtain ⟨v, hv⟩ : ∃ v, R[k]? = some v := ⟨_, List.getElem?_eq_getElem hlk⟩
              obtain ⟨rb, rf, rfl, hrq⟩ := HRQ.out (by omega)
              have q2 := hrq k hlk
              rw [X14.getD_get hv] at q2
              have q2 := cell_below HB.out q2
              have HV := hid hv
              have HGW := hid (HGr.out.below (HBA.out.trans (HB.out.mono HBA.out.size)))
              have HAW := hid (HAVA.out.below HB.out)
              clear hv hrq
              by_cases hkt : k < nt
              · have k2 : ¬ (nt : Int) ≤ (k : Int) := by omega
                have k3 : decide (nt ≤ k) = false := decide_eq_false (by omega)
                have HSY := hid (show placeX G (k : Int) = some k from by unfold placeX; rw [HNT.out, if_pos (by omega), if_pos (by omega), Int.toNat_natCast])
                have KG := Go_any HGW.out HAW.out HNX.out (i : Int) (k : Int) (by omega) (by omega)
                rw [goX_at HSY.out HR.out HV.out] at KG
                have KG := hid KG
                have hto := HTO.out i (k) ((k : Int)) v R hlt (place_sym HSY.out) HR.out HV.out
                rw [HXD.out] at hto
                have HT2 := hid hto
                have hvv : v = -1 ∨ ∃ q : Nat, v = (q : Int) ∧ 0 < q ∧ q < n := by
                  rcases hto with ⟨e, _⟩ | ⟨q, e, e1, e2, _⟩
                  · exact .inl e
                  · exact .inr ⟨q, e, e1, e2⟩
                clear hto
                rcases hvv with rfl | ⟨q, rfl, hq1, hq2⟩
                · have HX2 := hid (HX.out.none_ HR.out HV.out)
                  go_wp2_with fail
                  refine KG.out.mono ?_
                  rintro e w7 ⟨rfl, hb7⟩
                  have HB7 := hid (HB.out.trans (hb7.mono HB.out.size))
                  have HC7 := hid ((hb7.block _ (Array.getElem?_eq_some_iff.1 HC.out).1).trans HC.out)
                  have HA7 := hid ((hb7.block _ (Array.getElem?_eq_some_iff.1 HAr.out).1).trans HAr.out)
                  have a0 : w7.cell? ⟨w4.heap.size, 0, none⟩ = some (.slice (some ⟨kb, kf, none⟩) n kc) := Lib.cell_of_heap HA7.out 0
                  clear hb7 KG
                  go_wp2_with fail
                  refine ⟨⟨k + 1, C, by omega, by simp [Int.natCast_add], HX2, HB7, HC7⟩, ?_⟩
                  show R.length - ((k : Int) + 1).toNat < R.length - ((k : Int)).toNat
                  omega
                · have HX2 := hid (HX.out.some_ HR.out HV.out)
                  have hT3 : KER[q]? = some (stepX G (closeX G X) ((k : Int))) := by
                    rcases HT2.out with ⟨e, _⟩ | ⟨q', e, _, _, e3⟩
                    · omega
                    · rw [show q = q' by omega]; exact e3
                  obtain ⟨Y, hYe⟩ : ∃ Y, stepX G (closeX G X) ((k : Int)) = Y := ⟨_, rfl⟩
                  have HDOT := hid (show ∀ y ∈ Y, 1 ≤ y.2 ∧ behX G (y.1, y.2 - 1) = some ((k : Int)) from fun y hy => X14.step_dot (by rw [hYe]; exact hy))
                  rw [hYe] at hT3
                  have hYl := HKLEN.out Y (List.mem_of_getElem? hT3)
                  have hYd := X14.getD_get (d := ([] : List It)) hT3
                  obtain ⟨kb2, kf2, yv, elo, y1, y2⟩ := HKVA.out.at_ (k := q) hq2
                  injection elo with elo
                  injection elo with elb elo
                  subst elb
                  subst elo
                  obtain ⟨yo, yc, hyl, _⟩ := y2.len
                  subst hyl
                  rw [hYd] at y1 y2
                  have HY1 := hid y1
                  have HY2 := hid y2
                  have p1 : ¬ (q : Int) < 0 := by omega
                  have p2 : (q : Int) < (n : Int) := by omega
                  have p3 : (0 : Int) ≤ (q : Int) := by omega
                  have p4 : ¬ (n : Int) ≤ (q : Int) := by omega
                  have p6 : ¬ n ≤ q := by omega
                  have p7 : ((q : Int) == 0) = false := by rw [beq_eq_false_iff_ne]; omega
                  clear hT3 hYe hYd y1 y2 HT2
                  go_wp2_with fail
                  refine KG.out.mono ?_
                  rintro e w7 ⟨rfl, hb7⟩
                  have HB7 := hid (HB.out.trans (hb7.mono HB.out.size))
                  have HC7 := hid ((hb7.block _ (Array.getElem?_eq_some_iff.1 HC.out).1).trans HC.out)
                  have HA7 := hid ((hb7.block _ (Array.getElem?_eq_some_iff.1 HAr.out).1).trans HAr.out)
                  have a0 : w7.cell? ⟨w4.heap.size, 0, none⟩ = some (.slice (some ⟨kb, kf, none⟩) n kc) := Lib.cell_of_heap HA7.out 0
                  have g7 := Lib.frozen_of_heap HC7.out q
                  have c7 := come_at HC7.out hq2
                  obtain ⟨w8, e8⟩ : ∃ w8, w7.setCell ⟨bC, q, none⟩ (.bool true) = w8 := ⟨_, rfl⟩
                  have HC8 := hid (show w8.heap[bC]? = some (.cells (comeC n (fun t => if t = q then true else C t)) 4 (0, 0)) from by rw [← e8, ← come_set]; exact heap_setCell_same _ _ q _ 4 _ HC7.out)
                  have HB8 := hid (show Below wA.heap.size wA w8 from by rw [← e8]; exact HB7.out.setCell (by rw [HBC.out]; exact Nat.le_refl _) _)
                  clear hb7 KG
                  go_wp2_with fail
                  clear e8 a0 g7 c7 HC7 HB7 HA7

                  go_loopw [13, 14, 15, 16] (fun t13 t14 t15 t16 wr => ∃ p : Nat, p ≤ Y.length ∧ t13 = .int .i64 (p : Int) ∧ Hid (Below wA.heap.size wA wr) ∧ Hid (wr.heap[bC]? = some (.cells (comeC n (fun t => if t = q then true else C t)) 4 (0, 0)))) (fun t13 _ _ _ _ => Y.length - (RowKit.intOf t13).toNat)
                  case atStart => exact ⟨0, Nat.zero_le _, rfl, HB8, HC8⟩
                  case round =>
                    clear HB8 HC8 HB HC HAr HNr HGW HAW
                    obtain ⟨p, hp, rfl, HB, HC⟩ := hrel
                    have HAr := hid ((HB.out.block _ (Array.getElem?_eq_some_iff.1 HAA.out).1).trans HAA.out)
                    have a0 : wr.cell? ⟨w4.heap.size, 0, none⟩ = some (.slice (some ⟨kb, kf, none⟩) n kc) := Lib.cell_of_heap HAr.out 0
                    have m1 := cell_below HB.out HY1.out
                    by_cases hlp : p < Y.length
                    · have j1 : (p : Int) < (Y.length : Int) := by omega
                      have j0 : (0 : Int) ≤ (p : Int) := by omega
                      obtain ⟨ro', rc', hro, _, hcs⟩ := HY2.out
                      injection hro with hro1 hro2 hro3
                      subst hro1
                      obtain ⟨lb, lo, rfl, hcq⟩ := hcs (by omega)
                      obtain ⟨q0, q1⟩ := hcq p hlp
                      have q0 := cell_below HB.out q0
                      have q1 := cell_below HB.out q1
                      obtain ⟨x, hx⟩ : ∃ x, Y.getD p (0, 0) = x := ⟨_, rfl⟩
                      obtain ⟨hd1, hd2⟩ := HDOT.out x (by
                        have e : Y[p]? = some x := by rw [List.getElem?_eq_getElem hlp, ← hx, List.getD_eq_getElem?_getD, List.getElem?_eq_getElem hlp]; rfl
                        exact List.mem_of_getElem? e)
                      rw [hx] at q0 q1
                      obtain ⟨j5, hbv⟩ := item_wrap HVAL.out hd1 hd2
                      obtain ⟨wx, ex⟩ : ∃ wx, wr.alloc (.cells #[.int .i64 0, .int .i64 0] 37) = wx := ⟨_, rfl⟩
                      have nx : wx.heap[wr.heap.size]? = some (.cells #[.int .i64 0, .int .i64 0] 37 (0, 0)) := by rw [← ex]; exact new_block _ _
                      obtain ⟨wa, ea⟩ : ∃ wa, wx.setCell ⟨wr.heap.size, 0, none⟩ (.int .i64 x.1) = wa := ⟨_, rfl⟩
                      obtain ⟨wb, eb⟩ : ∃ wb, wa.setCell ⟨wr.heap.size, 1, none⟩ (.int .i64 x.2) = wb := ⟨_, rfl⟩
                      have na : wa.heap[wr.heap.size]? = some (.cells #[.int .i64 x.1, .int .i64 0] 37 (0, 0)) := by rw [← ea]; exact heap_setCell_same _ _ 0 _ 37 _ nx
                      have nb : wb.heap[wr.heap.size]? = some (.cells #[.int .i64 x.1, .int .i64 x.2] 37 (0, 0)) := by rw [← eb]; exact heap_setCell_same _ _ 1 _ 37 _ na
                      have hbb : Below wr.heap.size wr wb := by
                        rw [← eb, ← ea, ← ex]
                        exact ((((Below.refl _ _).alloc (Nat.le_refl _) _).setCell (Nat.le_refl _) _).setCell (Nat.le_refl _) _)
                      have u0 : wx.cell? ⟨wr.heap.size, 0, none⟩ = some (.int .i64 0) := Lib.cell_of_heap nx 0
                      have f0 := Lib.frozen_of_heap nx 0
                      have u1 : wa.cell? ⟨wr.heap.size, 1, none⟩ = some (.int .i64 0) := Lib.cell_of_heap na 1
                      have f1 := Lib.frozen_of_heap na 1
                      have d0 : wb.cell? ⟨wr.heap.size, 0, none⟩ = some (.int .i64 x.1) := Lib.cell_of_heap nb 0
                      have d1 : wb.cell? ⟨wr.heap.size, 1, none⟩ = some (.int .i64 x.2) := Lib.cell_of_heap nb 1
                      have HBb := hid (HB.out.trans (hbb.mono HB.out.size))
                      have HNb := hid ((HBb.out.block _ (Array.getElem?_eq_some_iff.1 HNA.out).1).trans HNA.out)
                      have HCb := hid ((hbb.block _ (Array.getElem?_eq_some_iff.1 HC.out).1).trans HC.out)
                      have c0 : wb.cell? ⟨w.heap.size, 0, none⟩ = some (.slice to_ nt tc) := Lib.cell_of_heap HNb.out 0
                      have c1 : wb.cell? ⟨w.heap.size, 1, none⟩ = some (ov) := Lib.cell_of_heap HNb.out 1
                      have c2 : wb.cell? ⟨w.heap.size, 2, none⟩ = some (sv) := Lib.cell_of_heap HNb.out 2
                      have c3 : wb.cell? ⟨w.heap.size, 3, none⟩ = some (pv) := Lib.cell_of_heap HNb.out 3
                      have c4 : wb.cell? ⟨w.heap.size, 4, none⟩ = some (.int .i64 G.start) := Lib.cell_of_heap HNb.out 4
                      have KB := hid (show Calls Tryd.prog 12 #[.agg #[.slice to_ nt tc, ov, sv, pv, .int .i64 G.start], .agg #[.int .i64 x.1, .int .i64 (x.2 - 1)]] wb (fun e w' => e = .returned (.tuple #[.int .i64 ((k : Int)), .bool true]) ∧ Below wb.heap.size wb w') from by
                        have h := Behind_any (HGr.out.below (HBA.out.trans (HBb.out.mono HBA.out.size))) (x.1, x.2 - 1)
                        unfold BehVP at h
                        rw [hbv] at h
                        exact h)
                      clear hcs hcq hx nx na nb hbb hro2 hro3 hd1 hd2 hbv
                      go_wp2_with fail
                      refine KB.out.mono ?_
                      rintro e w9 ⟨rfl, hb9⟩
                      have HB9 := hid (HBb.out.trans (hb9.mono HBb.out.size))
                      have HC9 := hid ((hb9.block _ (Array.getElem?_eq_some_iff.1 HCb.out).1).trans HCb.out)
                      clear hb9 KB
                      go_wp2_with fail
                      refine ⟨⟨p + 1, by omega, rfl, HB9, HC9⟩, ?_⟩
                      show Y.length - ((p : Int) + 1).toNat < Y.length - ((p : Int)).toNat
                      omega
                    · have j1 : ¬ (p : Int) < (Y.length : Int) := by omega
                      go_wp2_with fail
                      refine ⟨⟨k + 1, _, by omega, by simp [Int.natCast_add], HX2, HB, HC⟩, ?_⟩
                      show R.length - ((k : Int) + 1).toNat < R.length - ((k : Int)).toNat
                      omega
              · obtain ⟨t, rfl⟩ : ∃ t, k = nt + t := ⟨k - nt, by omega⟩
                have k2 : (nt : Int) ≤ ((nt + t : Nat) : Int) := by omega
                have k4 : (nt : Int) ≤ (nt : Int) + (t : Int) := by omega
                have k5 : IntKind.i64.wrap ((nt : Int) + (t : Int) - (nt : Int)) = (t : Int) := by rw [wrap_small (by omega) (by omega)]; omega
                have k6 : (nt : Int) + (t : Int) - (nt : Int) = (t : Int) := by omega
                have k7 : IntKind.i64.wrap (-1 - (t : Int)) = -1 - (t : Int) := wrap_small (by omega) (by omega)
                have k8 : (nt : Int) + (t : Int) < (R.length : Int) := by omega
                have k9 : (0 : Int) ≤ (nt : Int) + (t : Int) := by omega
                have HSY := hid (show placeX G (-1 - (t : Int)) = some (nt + t) from by
                  have h1 := HRLL.out
                  rw [X14.symsX_len, HNT.out] at h1
                  unfold placeX
                  rw [HNT.out, if_neg (by omega), if_pos (by omega)]
                  congr 1
                  omega)
                have KG := Go_any HGW.out HAW.out HNX.out (i : Int) (-1 - (t : Int)) (by omega) (by omega)
                rw [goX_at HSY.out HR.out HV.out] at KG
                have KG := hid KG
                have hto := HTO.out i (nt + t) (-1 - (t : Int)) v R hlt (place_sym HSY.out) HR.out HV.out
                rw [HXD.out] at hto
                have HT2 := hid hto
                have hvv : v = -1 ∨ ∃ q : Nat, v = (q : Int) ∧ 0 < q ∧ q < n := by
                  rcases hto with ⟨e, _⟩ | ⟨q, e, e1, e2, _⟩
                  · exact .inl e
                  · exact .inr ⟨q, e, e1, e2⟩
                clear hto
                rcases hvv with rfl | ⟨q, rfl, hq1, hq2⟩
                · have HX2 := hid (HX.out.none_ HR.out HV.out)
                  go_wp2_with fail
                  refine KG.out.mono ?_
                  rintro e w7 ⟨rfl, hb7⟩
                  have HB7 := hid (HB.out.trans (hb7.mono HB.out.size))
                  have HC7 := hid ((hb7.block _ (Array.getElem?_eq_some_iff.1 HC.out).1).trans HC.out)
                  have HA7 := hid ((hb7.block _ (Array.getElem?_eq_some_iff.1 HAr.out).1).trans HAr.out)
                  have a0 : w7.cell? ⟨w4.heap.size, 0, none⟩ = some (.slice (some ⟨kb, kf, none⟩) n kc) := Lib.cell_of_heap HA7.out 0
                  clear hb7 KG
                  go_wp2_with fail
                  refine ⟨⟨nt + t + 1, C, by omega, by simp [Int.natCast_add], HX2, HB7, HC7⟩, ?_⟩
                  show R.length - (((nt : Int) + (t : Int)) + 1).toNat < R.length - (((nt : Int) + (t : Int))).toNat
                  omega
                · have HX2 := hid (HX.out.some_ HR.out HV.out)
                  have hT3 : KER[q]? = some (stepX G (closeX G X) (-1 - (t : Int))) := by
                    rcases HT2.out with ⟨e, _⟩ | ⟨q', e, _, _, e3⟩
                    · omega
                    · rw [show q = q' by omega]; exact e3
                  obtain ⟨Y, hYe⟩ : ∃ Y, stepX G (closeX G X) (-1 - (t : Int)) = Y := ⟨_, rfl⟩
                  have HDOT := hid (show ∀ y ∈ Y, 1 ≤ y.2 ∧ behX G (y.1, y.2 - 1) = some (-1 - (t : Int)) from fun y hy => X14.step_dot (by rw [hYe]; exact hy))
                  rw [hYe] at hT3
                  have hYl := HKLEN.out Y (List.mem_of_getElem? hT3)
                  have hYd := X14.getD_get (d := ([] : List It)) hT3
                  obtain ⟨kb2, kf2, yv, elo, y1, y2⟩ := HKVA.out.at_ (k := q) hq2
                  injection elo with elo
                  injection elo with elb elo
                  subst elb
                  subst elo
                  obtain ⟨yo, yc, hyl, _⟩ := y2.len
                  subst hyl
                  rw [hYd] at y1 y2
                  have HY1 := hid y1
                  have HY2 := hid y2
                  have p1 : ¬ (q : Int) < 0 := by omega
                  have p2 : (q : Int) < (n : Int) := by omega
                  have p3 : (0 : Int) ≤ (q : Int) := by omega
                  have p4 : ¬ (n : Int) ≤ (q : Int) := by omega
                  have p6 : ¬ n ≤ q := by omega
                  have p7 : ((q : Int) == 0) = false := by rw [beq_eq_false_iff_ne]; omega
                  clear hT3 hYe hYd y1 y2 HT2
                  go_wp2_with fail
                  refine KG.out.mono ?_
                  rintro e w7 ⟨rfl, hb7⟩
                  have HB7 := hid (HB.out.trans (hb7.mono HB.out.size))
                  have HC7 := hid ((hb7.block _ (Array.getElem?_eq_some_iff.1 HC.out).1).trans HC.out)
                  have HA7 := hid ((hb7.block _ (Array.getElem?_eq_some_iff.1 HAr.out).1).trans HAr.out)
                  have a0 : w7.cell? ⟨w4.heap.size, 0, none⟩ = some (.slice (some ⟨kb, kf, none⟩) n kc) := Lib.cell_of_heap HA7.out 0
                  have g7 := Lib.frozen_of_heap HC7.out q
                  have c7 := come_at HC7.out hq2
                  obtain ⟨w8, e8⟩ : ∃ w8, w7.setCell ⟨bC, q, none⟩ (.bool true) = w8 := ⟨_, rfl⟩
                  have HC8 := hid (show w8.heap[bC]? = some (.cells (comeC n (fun t => if t = q then true else C t)) 4 (0, 0)) from by rw [← e8, ← come_set]; exact heap_setCell_same _ _ q _ 4 _ HC7.out)
                  have HB8 := hid (show Below wA.heap.size wA w8 from by rw [← e8]; exact HB7.out.setCell (by rw [HBC.out]; exact Nat.le_refl _) _)
                  clear hb7 KG
                  go_wp2_with fail
                  clear e8 a0 g7 c7 HC7 HB7 HA7

                  go_loopw [13, 14, 15, 16] (fun t13 t14 t15 t16 wr => ∃ p : Nat, p ≤ Y.length ∧ t13 = .int .i64 (p : Int) ∧ Hid (Below wA.heap.size wA wr) ∧ Hid (wr.heap[bC]? = some (.cells (comeC n (fun t => if t = q then true else C t)) 4 (0, 0)))) (fun t13 _ _ _ _ => Y.length - (RowKit.intOf t13).toNat)
                  case atStart => exact ⟨0, Nat.zero_le _, rfl, HB8, HC8⟩
                  case round =>
                    clear HB8 HC8 HB HC HAr HNr HGW HAW
                    obtain ⟨p, hp, rfl, HB, HC⟩ := hrel
                    have HAr := hid ((HB.out.block _ (Array.getElem?_eq_some_iff.1 HAA.out).1).trans HAA.out)
                    have a0 : wr.cell? ⟨w4.heap.size, 0, none⟩ = some (.slice (some ⟨kb, kf, none⟩) n kc) := Lib.cell_of_heap HAr.out 0
                    have m1 := cell_below HB.out HY1.out
                    by_cases hlp : p < Y.length
                    · have j1 : (p : Int) < (Y.length : Int) := by omega
                      have j0 : (0 : Int) ≤ (p : Int) := by omega
                      obtain ⟨ro', rc', hro, _, hcs⟩ := HY2.out
                      injection hro with hro1 hro2 hro3
                      subst hro1
                      obtain ⟨lb, lo, rfl, hcq⟩ := hcs (by omega)
                      obtain ⟨q0, q1⟩ := hcq p hlp
                      have q0 := cell_below HB.out q0
                      have q1 := cell_below HB.out q1
                      obtain ⟨x, hx⟩ : ∃ x, Y.getD p (0, 0) = x := ⟨_, rfl⟩
                      obtain ⟨hd1, hd2⟩ := HDOT.out x (by
                        have e : Y[p]? = some x := by rw [List.getElem?_eq_getElem hlp, ← hx, List.getD_eq_getElem?_getD, List.getElem?_eq_getElem hlp]; rfl
                        exact List.mem_of_getElem? e)
                      rw [hx] at q0 q1
                      obtain ⟨j5, hbv⟩ := item_wrap HVAL.out hd1 hd2
                      obtain ⟨wx, ex⟩ : ∃ wx, wr.alloc (.cells #[.int .i64 0, .int .i64 0] 37) = wx := ⟨_, rfl⟩
                      have nx : wx.heap[wr.heap.size]? = some (.cells #[.int .i64 0, .int .i64 0] 37 (0, 0)) := by rw [← ex]; exact new_block _ _
                      obtain ⟨wa, ea⟩ : ∃ wa, wx.setCell ⟨wr.heap.size, 0, none⟩ (.int .i64 x.1) = wa := ⟨_, rfl⟩
                      obtain ⟨wb, eb⟩ : ∃ wb, wa.setCell ⟨wr.heap.size, 1, none⟩ (.int .i64 x.2) = wb := ⟨_, rfl⟩
                      have na : wa.heap[wr.heap.size]? = some (.cells #[.int .i64 x.1, .int .i64 0] 37 (0, 0)) := by rw [← ea]; exact heap_setCell_same _ _ 0 _ 37 _ nx
                      have nb : wb.heap[wr.heap.size]? = some (.cells #[.int .i64 x.1, .int .i64 x.2] 37 (0, 0)) := by rw [← eb]; exact heap_setCell_same _ _ 1 _ 37 _ na
                      have hbb : Below wr.heap.size wr wb := by
                        rw [← eb, ← ea, ← ex]
                        exact ((((Below.refl _ _).alloc (Nat.le_refl _) _).setCell (Nat.le_refl _) _).setCell (Nat.le_refl _) _)
                      have u0 : wx.cell? ⟨wr.heap.size, 0, none⟩ = some (.int .i64 0) := Lib.cell_of_heap nx 0
                      have f0 := Lib.frozen_of_heap nx 0
                      have u1 : wa.cell? ⟨wr.heap.size, 1, none⟩ = some (.int .i64 0) := Lib.cell_of_heap na 1
                      have f1 := Lib.frozen_of_heap na 1
                      have d0 : wb.cell? ⟨wr.heap.size, 0, none⟩ = some (.int .i64 x.1) := Lib.cell_of_heap nb 0
                      have d1 : wb.cell? ⟨wr.heap.size, 1, none⟩ = some (.int .i64 x.2) := Lib.cell_of_heap nb 1
                      have HBb := hid (HB.out.trans (hbb.mono HB.out.size))
                      have HNb := hid ((HBb.out.block _ (Array.getElem?_eq_some_iff.1 HNA.out).1).trans HNA.out)
                      have HCb := hid ((hbb.block _ (Array.getElem?_eq_some_iff.1 HC.out).1).trans HC.out)
                      have c0 : wb.cell? ⟨w.heap.size, 0, none⟩ = some (.slice to_ nt tc) := Lib.cell_of_heap HNb.out 0
                      have c1 : wb.cell? ⟨w.heap.size, 1, none⟩ = some (ov) := Lib.cell_of_heap HNb.out 1
                      have c2 : wb.cell? ⟨w.heap.size, 2, none⟩ = some (sv) := Lib.cell_of_heap HNb.out 2
                      have c3 : wb.cell? ⟨w.heap.size, 3, none⟩ = some (pv) := Lib.cell_of_heap HNb.out 3
                      have c4 : wb.cell? ⟨w.heap.size, 4, none⟩ = some (.int .i64 G.start) := Lib.cell_of_heap HNb.out 4
                      have KB := hid (show Calls Tryd.prog 12 #[.agg #[.slice to_ nt tc, ov, sv, pv, .int .i64 G.start], .agg #[.int .i64 x.1, .int .i64 (x.2 - 1)]] wb (fun e w' => e = .returned (.tuple #[.int .i64 (-1 - (t : Int)), .bool true]) ∧ Below wb.heap.size wb w') from by
                        have h := Behind_any (HGr.out.below (HBA.out.trans (HBb.out.mono HBA.out.size))) (x.1, x.2 - 1)
                        unfold BehVP at h
                        rw [hbv] at h
                        exact h)
                      clear hcs hcq hx nx na nb hbb hro2 hro3 hd1 hd2 hbv
                      go_wp2_with fail
                      refine KB.out.mono ?_
                      rintro e w9 ⟨rfl, hb9⟩
                      have HB9 := hid (HBb.out.trans (hb9.mono HBb.out.size))
                      have HC9 := hid ((hb9.block _ (Array.getElem?_eq_some_iff.1 HCb.out).1).trans HCb.out)
                      clear hb9 KB
                      go_wp2_with fail
                      refine ⟨⟨p + 1, by omega, rfl, HB9, HC9⟩, ?_⟩
                      show Y.length - ((p : Int) + 1).toNat < Y.length - ((p : Int)).toNat
                      omega
                    · have j1 : ¬ (p : Int) < (Y.length : Int) := by omega
                      go_wp2_with fail
                      refine ⟨⟨nt + t + 1, _, by omega, by simp [Int.natCast_add], HX2, HB, HC⟩, ?_⟩
                      show R.length - (((nt : Int) + (t : Int)) + 1).toNat < R.length - (((nt : Int) + (t : Int))).toNat
                      omega
            · have k1 : ¬ (k : Int) < (R.length : Int) := by omega
              have hke : k = R.length := by omega
              have HX2 := hid (ComeX.row (show ComeX NX C i R.length from by rw [← hke]; exact HX.out) HR.out)
              clear hke
              go_wp2_with fail
              refine ⟨⟨i + 1, C, by omega, rfl, HX2, HB, HC⟩, ?_⟩
              show n - ((i : Int) + 1).toNat < n - ((i : Int)).toNat
              omega
    · have t1 : ¬ (i : Int) < (n : Int) := by omega
      have hie : i = n := by omega
      have HALL := hid (show ∀ q, q < n → C q = true from fun q hq => by
        rcases Nat.eq_zero_or_pos q with e | e
        · rw [e]; exact HX.out.zero
        · obtain ⟨i', k', R, a1, a2, a3⟩ := HCO.out q e hq
          exact HX.out.all i' k' R q a2 a3 (.inl (by omega)))
      clear hie
      go_wp2_with fail
      go_loopw [17] (fun t17 wz => ∃ q : Nat, q ≤ n ∧ t17 = .int .i64 (q : Int) ∧ wz = wr) (fun t17 _ => n - (RowKit.intOf t17).toNat)
      case atStart => exact ⟨0, Nat.zero_le _, rfl, by first | trivial | rfl⟩
      case round =>
        obtain ⟨q, hq, rfl, hww⟩ := hrel
        subst hww
        by_cases hlq : q < n
        · have q1 : (q : Int) < (n : Int) := by omega
          have q0 : (0 : Int) ≤ (q : Int) := by omega
          have cq := come_at HC.out hlq
          rw [HALL.out q hlq] at cq
          go_wp2_with fail
          refine ⟨⟨q + 1, by omega, rfl, by first | trivial | rfl⟩, ?_⟩
          show n - ((q : Int) + 1).toNat < n - ((q : Int)).toNat
          omega
        · have q1 : ¬ (q : Int) < (n : Int) := by omega
          go_wp2_with fail
          go_ret
          exact ⟨rfl, HBA.out.trans (HB.out.mono HBA.out.size)⟩
end Go.Proofs.YtjpbhbfklkipkaaDoor
