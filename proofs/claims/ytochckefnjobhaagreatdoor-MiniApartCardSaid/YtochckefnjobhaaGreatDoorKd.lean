/- mini.blocks: the blocks of states that nothing tells apart. -/
import Derived.WalkMore
import Derived.ScopeJumps
import Derived.Test.YtochckefnjobhaaGreatDoorKc
namespace Go.Proofs.YtochckefnjobhaaGreatDoor
open Go Go.RowKit Go.Lib
open X5 (Aut)
set_option linter.unusedVariables false
set_option linter.unusedSimpArgs false
theorem wp_scope_jumps2 {P : Program} {a : Act} {w : World} {Q : Exit → Act → World → Prop} {c rest : Code} (l : Nat) (J : Act → World → Prop) (μ : Act → World → Nat) (hf : findLabel c l = some (Code.skip.seq rest))
  (pass : ∀ a w, J a w → rest.wp P (Exit.jump l (fun a' w' => J a' w' ∧ μ a' w' < μ a w) Q) a w)
  (first : (∀ a w, J a w → rest.wp P (Exit.jump l J Q) a w) → c.wp P (Exit.jump l J Q) a w) : (Code.scope c).wp P Q a w :=
 wp_scope_jumps l J μ hf (first fun a w h => Code.wp_mono (fun e a' w' hq => by
   cases e with
   | goto l' => exact ⟨hq.1, hq.2.1⟩
   | _ => exact hq) (pass a w h)) fun a w h => wp_seq (wp_skip (pass a w h))
theorem made_ints (n : Nat) (hn : n ≤ 1000000) (w : World) : (Instr.makeSlice 87 (.int .i64 (n : Int)) (.int .i64 (n : Int))).run Tryz.prog w = .ok (.slice (some ⟨w.heap.size, 0, none⟩) n n) (w.alloc (.cells (Array.replicate n (.int .i64 0)) 3)) := by
 obtain ⟨i0, hi, hz0, hz1, hz2⟩ := info_parts info3
 have := run_makeSlice (P := Tryz.prog) (w := w) 87 3 i0 (.int .i64 0) Tryz.underlying87 hi hz0 .i64 .i64 (n : Int) (n : Int) (by omega) (by omega) (by rw [hz1]; omega) (by rw [hz2]; omega) (by omega)
 rw [this, hz1]
 have e : madeCells (Value.int .i64 0).cells ((n : Int).toNat * 1) = Array.replicate n (.int .i64 0) := by
  rw [Int.toNat_natCast, Nat.mul_one]
  refine Array.ext (by simp [madeCells]) fun i h1 h2 => ?_
  simp [madeCells, Value.cells, Nat.mod_one]
 rw [e, Int.toNat_natCast]
def b0 (lv : List Bool) (N k : Nat) : List Int := (List.range N).map fun i => if i < k ∧ lv.getD i false = false then -1 else 0
theorem b0_len (lv : List Bool) (N k : Nat) : (b0 lv N k).length = N := by simp [b0]
theorem b0_at {lv : List Bool} {N k i : Nat} (hi : i < N) : (b0 lv N k)[i]? = some (if i < k ∧ lv.getD i false = false then -1 else 0) := by simp [b0, hi]
theorem b0_succ {lv : List Bool} {N k : Nat} (hk : k < N) : b0 lv N (k + 1) = if lv.getD k false = false then (b0 lv N k).set k (-1) else b0 lv N k := by
 refine List.ext_getElem? fun i => ?_
 by_cases hi : i < N
 ·rw [b0_at hi]
  by_cases h : lv.getD k false = false
  ·rw [if_pos h, List.getElem?_set]
   by_cases e : k = i
   ·subst e
    have hl2 : (b0 lv N k).length = N := b0_len lv N k
    rw [if_pos rfl, hl2, if_pos hi, if_pos ⟨by omega, h⟩]
   ·rw [if_neg e, b0_at hi]
    congr 1
    by_cases h1 : i < k
    ·simp [h1, show i < k + 1 by omega]
    ·simp [h1, show ¬ i < k + 1 by omega]
  ·rw [if_neg h, b0_at hi]
   congr 1
   by_cases h1 : i < k
   ·simp [h1, show i < k + 1 by omega]
   ·by_cases e : k = i
    ·subst e
     simp [h]
     simpa using h
    ·simp [h1, show ¬ i < k + 1 by omega]
 ·have h1 : (b0 lv N (k + 1)).length ≤ i := by rw [b0_len]; omega
  rw [List.getElem?_eq_none h1]
  split
  ·rw [List.getElem?_eq_none (by rw [List.length_set, b0_len]; omega)]
  ·rw [List.getElem?_eq_none (by rw [b0_len]; omega)]
theorem ivs_set (l : List Int) (k : Nat) (z : Int) : (ivs l).setIfInBounds k (.int .i64 z) = ivs (l.set k z) := by
 simp [ivs, List.map_set]
theorem rowAt_of_block {w : World} {g : Nat} {l : List Int} (h : w.heap[g]? = some (.cells (ivs l) 3 (0, 0))) (c : Nat) : RowAtI w (.slice (some ⟨g, 0, none⟩) l.length c) l :=
 ⟨_, _, rfl, fun j hj => ⟨g, 0, rfl, (Array.getElem?_eq_some_iff.1 h).1, by
  rw [Nat.zero_add, Lib.cell_of_heap h]
  simp [ivs, hj]⟩⟩
structure JB (D : Aut) (K ab : Nat) (lv : List Bool) (W : World) (Bk : List Int) (c : Nat) (bv : Value) (w : World) : Prop where
 row : RowAtI w bv Bk
 part : X6.Part K D Bk c
 bnd : ∀ x ∈ Bk, -1 ≤ x ∧ x < 2147483648
 bel : Below W.heap.size W w
 al : w.heap[ab]? = some (.cells (bools lv) 4 (0, 0))
 ll : lv.length = D.next.length
 lv : ∀ i, i < D.next.length → (lv.getD i false = true ↔ X6.Live K D (i : Int))
def fB (D : Aut) (Bk : List Int) (x : Nat) : List UInt8 := keyT (X6.keyB D Bk x)
def aB (lv : List Bool) (x : Nat) : Bool := lv.getD x false
def nB (D : Aut) (Bk : List Int) (lv : List Bool) (k : Nat) : List Int × List (List UInt8) := X6.nums (fB D Bk) (aB lv) k
theorem nB_len (D : Aut) (Bk : List Int) (lv : List Bool) (k : Nat) : (nB D Bk lv k).1.length = k := (X6.nums_ok (fB D Bk) (aB lv) k).len
theorem nB_few (D : Aut) (Bk : List Int) (lv : List Bool) : ∀ k, (nB D Bk lv k).2.length ≤ k
 | 0 => Nat.le_refl _
 | k + 1 => by
  have := nB_few D Bk lv k
  unfold nB at this ⊢
  rw [X6.nums]
  split
  ·split
   ·show (X6.nums (fB D Bk) (aB lv) k).2.length ≤ k + 1
    omega
   ·show ((X6.nums (fB D Bk) (aB lv) k).2 ++ [fB D Bk k]).length ≤ k + 1
    rw [List.length_append, List.length_singleton]; omega
  ·show (X6.nums (fB D Bk) (aB lv) k).2.length ≤ k + 1
   omega
theorem nB_live {D : Aut} {Bk : List Int} {lv : List Bool} {k : Nat} (h : aB lv k = true) : nB D Bk lv (k + 1) = ((nB D Bk lv k).1 ++ [((numI (nB D Bk lv k).2 (fB D Bk k) : Nat) : Int)], numM (nB D Bk lv k).2 (fB D Bk k)) := by
 unfold nB numI numM
 rw [X6.nums, if_pos h]
 split <;> rfl
theorem nB_dead {D : Aut} {Bk : List Int} {lv : List Bool} {k : Nat} (h : aB lv k = false) : nB D Bk lv (k + 1) = ((nB D Bk lv k).1 ++ [-1], (nB D Bk lv k).2) := by
 unfold nB
 rw [X6.nums, if_neg (by rw [h]; decide)]
def rowB (D : Aut) (Bk : List Int) (lv : List Bool) (N k : Nat) : List Int := (nB D Bk lv k).1 ++ List.replicate (N - k) 0
theorem rowB_set {D : Aut} {Bk : List Int} {lv : List Bool} {N k : Nat} (hk : k < N) (z : Int) : (rowB D Bk lv N k).set k z = (nB D Bk lv k).1 ++ z :: List.replicate (N - (k + 1)) 0 := by
 unfold rowB
 rw [List.set_append_right _ _ (Nat.le_of_eq (nB_len D Bk lv k)), nB_len, Nat.sub_self, show N - k = (N - (k + 1)) + 1 by omega, List.replicate_succ]
 rfl
theorem rowB_succ (D : Aut) (Bk : List Int) (lv : List Bool) (N k : Nat) (z : Int) (M : List (List UInt8)) (h : nB D Bk lv (k + 1) = ((nB D Bk lv k).1 ++ [z], M)) : rowB D Bk lv N (k + 1) = (nB D Bk lv k).1 ++ z :: List.replicate (N - (k + 1)) 0 := by
 unfold rowB
 rw [h]
 simp
theorem rowB_dead {D : Aut} {Bk : List Int} {lv : List Bool} {N k : Nat} (hk : k < N) (h : aB lv k = false) : (rowB D Bk lv N k).set k (-1) = rowB D Bk lv N (k + 1) := by
 rw [rowB_set hk, rowB_succ D Bk lv N k (-1) _ (nB_dead h)]
theorem rowB_live {D : Aut} {Bk : List Int} {lv : List Bool} {N k : Nat} (hk : k < N) (h : aB lv k = true) : ((rowB D Bk lv N k).set k (-1)).set k ((numI (nB D Bk lv k).2 (fB D Bk k) : Nat) : Int) = rowB D Bk lv N (k + 1) := by
 rw [List.set_set, rowB_set hk, rowB_succ D Bk lv N k _ _ (nB_live h)]
theorem rowB_len {D : Aut} {Bk : List Int} {lv : List Bool} {N k : Nat} (hk : k ≤ N) : (rowB D Bk lv N k).length = N := by
 unfold rowB
 rw [List.length_append, nB_len, List.length_replicate]
 omega
theorem rowB_at {D : Aut} {Bk : List Int} {lv : List Bool} {N k : Nat} (hk : k < N) : (rowB D Bk lv N k)[k]? = some 0 := by
 unfold rowB
 rw [List.getElem?_append_right (Nat.le_of_eq (nB_len D Bk lv k)), nB_len, Nat.sub_self, List.getElem?_replicate, if_pos (by omega)]
set_option maxRecDepth 100000 in
set_option maxHeartbeats 16000000 in
theorem blocks_any {w : World} {nv tv : Value} {D : Aut} {K : Nat} (h : DAt w nv tv D) (hD : X6.Ok D K) (hN : D.next.length ≤ 1000000) (hNK : D.next.length * K ≤ 1000000) (hK : K ≤ 1000000) (ht64 : ∀ t ∈ D.tags, t < 18446744073709551616) :
  Calls Tryz.prog 44 #[.agg (dval D nv tv)] w fun e w' => ∃ (o : Option Addr) (c : Nat) (Bk : List Int), e = .returned (.slice o D.next.length c) ∧ RowAtI w' (.slice o D.next.length c) Bk ∧ X6.Blk K D Bk ∧ (∀ x ∈ Bk, -1 ≤ x ∧ x < 2147483648) ∧ Below w.heap.size w w' := by
 obtain ⟨dc, hdc⟩ : ∃ dc, dval D nv tv = dc := ⟨_, rfl⟩
 have HD256 := hid (dcell_next h.len nv tv)
 have HSZ := hid (show (dval D nv tv).size = 258 from by
  have := h.len
  simp [dval, ivs, this])
 rw [hdc] at HD256 HSZ ⊢
 have HDC := hid hdc
 obtain ⟨wa, ea⟩ : ∃ wa, w.alloc (.cells dc 26) = wa := ⟨_, rfl⟩
 have hba : Below w.heap.size w wa := by rw [← ea]; exact (Below.refl _ _).alloc (Nat.le_refl _) _
 have hna : wa.heap[w.heap.size]? = some (.cells dc 26 (0, 0)) := by rw [← ea]; exact new_block _ _
 have hsa : wa.heap.size = w.heap.size + 1 := by rw [← ea]; simp
 have hda := h.below hba
 have KL := hid (live_any hda hD hN hNK)
 rw [hdc] at KL
 obtain ⟨no, nc, hno⟩ : ∃ no nc, nv = .slice no D.next.length nc := by
  obtain ⟨ro, rc, e, _⟩ := h.rows
  exact ⟨ro, rc, e⟩
 subst hno
 obtain ⟨N, hNN⟩ : ∃ N, D.next.length = N := ⟨_, rfl⟩
 rw [hNN] at hN HD256 KL ⊢
 have HDA := hid hda
 have HOK := hid hD
 have HNA := hid hna
 have HBA := hid hba
 have HNN := hid hNN
 have HT64 := hid ht64
 have HS := hid hsa
 have HKK := hid hK
 clear h hdc hda hD hna hba hNN hsa ht64 hNK
 go_enter Tryz.func44, Tryz.ntmps44
 go_wp2_with fail
 refine wp_scope_jumps2 0 (fun a' w' => ∃ (Bk : List Int) (c : Nat) (bo : Option Addr) (bc ab : Nat) (lv : List Bool) (u5 u7 u8 u9 u10 u11 u12 u13 u14 u15 u16 u17 u18 u19 u20 u21 u22 u23 u24 u25 u26 u27 u28 u29 u30 u31 u32 u33 u34 u35 u36 u37 u38 u39 u40 u41 u42 u43 u44 u45 u46 u47 u48 u49 u50 u51 u52 u53 u54 u55 u56 u57 u58 u59 u60 u61 u62 u63 u64 u65 : Value), a' = { tmps := #[.agg dc, .pointer (some ⟨w.heap.size, 0, none⟩), .slice none 0 0, .slice (some ⟨ab, 0, none⟩) N N, .slice bo N bc, u5, .int .i64 (c : Int), u7, u8, u9, u10, u11, u12, u13, u14, u15, u16, u17, u18, u19, u20, u21, u22, u23, u24, u25, u26, u27, u28, u29, u30, u31, u32, u33, u34, u35, u36, u37, u38, u39, u40, u41, u42, u43, u44, u45, u46, u47, u48, u49, u50, u51, u52, u53, u54, u55, u56, u57, u58, u59, u60, u61, u62, u63, u64, u65], defers := [] } ∧ Hid (JB D K ab lv wa Bk c (.slice bo N bc) w')) (fun a' _ => N + 1 - (RowKit.intOf (a'.tmps.getD 6 undef)).toNat) rfl ?_ ?_
 ·rintro a wl ⟨Bk, c, bo, bc, ab, lv, u5, u7, u8, u9, u10, u11, u12, u13, u14, u15, u16, u17, u18, u19, u20, u21, u22, u23, u24, u25, u26, u27, u28, u29, u30, u31, u32, u33, u34, u35, u36, u37, u38, u39, u40, u41, u42, u43, u44, u45, u46, u47, u48, u49, u50, u51, u52, u53, u54, u55, u56, u57, u58, u59, u60, u61, u62, u63, u64, u65, rfl, HJ⟩
  have hmm := @run_makeMap Tryz.prog
  obtain ⟨wm, em⟩ : ∃ wm, wl.alloc (.map #[] 0) = wm := ⟨_, rfl⟩
  obtain ⟨wn, en⟩ : ∃ wn, wm.alloc (.cells #[.map (some wl.heap.size)] 124) = wn := ⟨_, rfl⟩
  have hm3 := made_ints N hN wn
  obtain ⟨wx, ex⟩ : ∃ wx, wn.alloc (.cells (Array.replicate N (.int .i64 0)) 3) = wx := ⟨_, rfl⟩
  have hsm : wm.heap.size = wl.heap.size + 1 := by rw [← em]; simp
  have hsn : wn.heap.size = wm.heap.size + 1 := by rw [← en]; simp
  have hsx : wx.heap.size = wn.heap.size + 1 := by rw [← ex]; simp
  have hbm : Below wl.heap.size wl wm := by rw [← em]; exact (Below.refl _ _).alloc (Nat.le_refl _) _
  have hbn : Below wm.heap.size wm wn := by rw [← en]; exact (Below.refl _ _).alloc (Nat.le_refl _) _
  have hbx : Below wn.heap.size wn wx := by rw [← ex]; exact (Below.refl _ _).alloc (Nat.le_refl _) _
  have hr0 : ivs (rowB D Bk lv N 0) = Array.replicate N (.int .i64 0) := by simp [rowB, nB, X6.nums, ivs]
  have hf := (((Foot.empty wl wl.heap.size (Nat.le_refl _)).add (mapI 9 wl.heap.size []) hbm (by rw [← em]; exact MapIs.made wl) (fun b hb => by
   have : b = wl.heap.size := by simpa [mapI] using hb
   omega)).add (blkI wm.heap.size (.cells #[.map (some wl.heap.size)] 124 (0, 0))) hbn (by rw [← en]; exact new_block _ _) (fun b hb => by
   have : b = wm.heap.size := by simpa [blkI] using hb
   omega)).add (blkI wn.heap.size (.cells (Array.replicate N (.int .i64 0)) 3 (0, 0))) hbx (by rw [← ex]; exact new_block _ _) (fun b hb => by
   have : b = wn.heap.size := by simpa [blkI] using hb
   omega)
  have HF := hid (show Foot wl.heap.size wl wx [mapI 9 wl.heap.size (bmap (nB D Bk lv 0).2), blkI wm.heap.size (.cells #[.map (some wl.heap.size)] 124 (0, 0)), blkI wn.heap.size (.cells (ivs (rowB D Bk lv N 0)) 3 (0, 0))] from by rw [hr0]; exact hf)
  have HZ := hid (And.intro hsm (And.intro hsn hsx))
  clear hbm hbn hbx hr0 hf hsm hsn hsx
  go_wp2_with fail
  clear em en ex hmm hm3
  have HJ2 := HJ.out
  have HFN := hid (show ∀ x, (fB D Bk x).length ≤ 1000000000 from fun x => by
   unfold fB
   rw [keyT_len]
   unfold X6.keyB
   simp only [List.length_map]
   by_cases hx : x < D.next.length
   ·have := HOK.out.rows x hx; omega
   ·unfold X5.rowOf
    rw [List.getD_eq_getElem?_getD, List.getElem?_eq_none (by omega)]
    simp)
  clear HJ2
  go_loopw [38] (fun t38 wr => ∃ k : Nat, k ≤ N ∧ t38 = .int .i64 (k : Int) ∧ Hid (Foot wl.heap.size wl wr [mapI 9 wl.heap.size (bmap (nB D Bk lv k).2), blkI wm.heap.size (.cells #[.map (some wl.heap.size)] 124 (0, 0)), blkI wn.heap.size (.cells (ivs (rowB D Bk lv N k)) 3 (0, 0))])) (fun t38 _ => N - (RowKit.intOf t38).toNat)
  case atStart => exact ⟨0, Nat.zero_le _, rfl, HF⟩
  case round =>
   clear HF
   obtain ⟨k, hk, rfl, HF⟩ := hrel
   by_cases hlt : k < N
   ·have h1 : (k : Int) < (N : Int) := by omega
    have h2 : (0 : Int) ≤ (k : Int) := by omega
    have hbl := HF.out.bel
    have hsz := hbl.size
    have hrx := HF.out.ok 2 _ rfl
    have cx : wr.cell? ⟨wn.heap.size, k, none⟩ = some (.int .i64 0) := by
     rw [Lib.cell_of_heap hrx]
     have := rowB_at (D := D) (Bk := Bk) (lv := lv) hlt
     simp [ivs, this]
    have fx := Lib.frozen_of_heap hrx k
    have hxl := (Array.getElem?_eq_some_iff.1 hrx).1
    obtain ⟨w4, e4⟩ : ∃ w4, wr.setCell ⟨wn.heap.size, k, none⟩ (.int .i64 (-1)) = w4 := ⟨_, rfl⟩
    have hf4 := HF.out.upd 2 rfl (blkI wn.heap.size (.cells (ivs ((rowB D Bk lv N k).set k (-1))) 3 (0, 0))) (Touch.set wr wn.heap.size k (.int .i64 (-1))) (by
     show (wr.setCell ⟨wn.heap.size, k, none⟩ (.int .i64 (-1))).heap[wn.heap.size]? = _
     rw [heap_setCell_same wr wn.heap.size k _ 3 _ hrx, ivs_set]) (fun b hb => ⟨.inl hb, by
     have e : b = wn.heap.size := by simpa [blkI] using hb
     rw [e, World.size_setCell]; exact hxl⟩)
    rw [e4] at hf4
    have hs4 : w4.heap.size = wr.heap.size := by rw [← e4]; simp
    obtain ⟨b, hb⟩ : ∃ b, lv[k]? = some b := ⟨_, List.getElem?_eq_getElem (by rw [HJ.out.ll, HNN.out]; exact hlt)⟩
    have hal := HJ.out.al
    have hall := (Array.getElem?_eq_some_iff.1 hal).1
    have hal4 : w4.heap[ab]? = some (.cells (bools lv) 4 (0, 0)) := (hf4.bel.block _ hall).trans hal
    have ca := (bools_cell hal4 hb).1
    have hab4 : ab < w4.heap.size := (Array.getElem?_eq_some_iff.1 hal4).1
    have HAB := hid (show aB lv k = b from by unfold aB; rw [List.getD_eq_getElem?_getD, hb]; rfl)
    have HF4 := hid hf4
    clear hb hal hal4 hall hf4 hbl hrx
    cases b with
    | false =>
     go_wp2_with fail
     refine ⟨⟨k + 1, by omega, rfl, hid ?_⟩, ?_⟩
     ·have h5 := HF4.out
      rw [rowB_dead hlt HAB.out] at h5
      rw [nB_dead HAB.out]
      exact h5
     ·show N - ((k : Int) + 1).toNat < N - ((k : Int)).toNat
      omega
    | true =>
     have hb4 : Below wa.heap.size wa w4 := HJ.out.bel.trans (HF4.out.bel.mono HJ.out.bel.size)
     have hn4 : w4.heap[w.heap.size]? = some (.cells dc 26 (0, 0)) := (hb4.block _ (by have := HS.out; omega)).trans HNA.out
     have KK := keyOf2_any (HDA.out.below hb4) HOK.out HKK.out (HJ.out.row.below HF4.out.bel) HJ.out.part.len HJ.out.bnd (by rw [HNN.out]; exact hN) k (by rw [HNN.out]; exact hlt)
     rw [HDC.out] at KK
     have KK := hid KK
     have HN4 := hid hn4
     have HB4 := hid hb4
     clear hn4 hb4
     go_wp2_with (with_reducible refine wpList_load30 rfl (.tmp 1) rfl w.heap.size rfl dc HN4.out HSZ.out ?_)
     clear ca fx cx
     refine KK.out.mono ?_
     rintro e w5 ⟨rfl, hb5⟩
     have hf5 := HF4.out.below hb5
     have KN := hid (numberB_any (fB D Bk k) (HFN.out k) (by have := nB_few D Bk lv k; omega) (hf5.ok 1 _ rfl) (hf5.ok 0 _ rfl))
     have HF5 := hid hf5
     obtain ⟨KV, hKV⟩ : ∃ KV, keyTV (keyT (X6.keyB D Bk k)) = KV := ⟨_, rfl⟩
     have hKV2 : keyTV (fB D Bk k) = KV := hKV
     rw [hKV]
     rw [hKV2] at KN
     clear hb5 hf5 hKV hKV2 KK
     go_wp2_with fail
     refine KN.out.mono ?_
     rintro e w6 ⟨rfl, hmap, hg6⟩
     have hf6 := HF5.out.upd 0 rfl (mapI 9 wl.heap.size (bmap (numM (nB D Bk lv k).2 (fB D Bk k)))) (Touch.grown hg6) hmap (fun b hb => ⟨.inl hb, by
      have e : b = wl.heap.size := by simpa [mapI] using hb
      rw [e]; exact hmap.lt⟩)
     have hr6 := hf6.ok 2 _ rfl
     have hxl6 := (Array.getElem?_eq_some_iff.1 hr6).1
     have cx6 : w6.cell? ⟨wn.heap.size, k, none⟩ = some (.int .i64 (-1)) := by
      rw [Lib.cell_of_heap hr6]
      have hl : k < (rowB D Bk lv N k).length := by rw [rowB_len (Nat.le_of_lt hlt)]; exact hlt
      simp [ivs, hl]
     have fx6 := Lib.frozen_of_heap hr6 k
     have HF6 := hid hf6
     have HR6 := hid (And.intro hr6 hxl6)
     generalize hq : numI (nB D Bk lv k).2 (fB D Bk k) = q at *
     have HQ := hid hq
     clear hf6 hr6 hmap hg6 KN hq
     go_wp2_with fail
     refine ⟨⟨k + 1, by omega, rfl, hid ?_⟩, ?_⟩
     ·have h5 := HF6.out.upd 2 rfl (blkI wn.heap.size (.cells (ivs (((rowB D Bk lv N k).set k (-1)).set k (q : Int))) 3 (0, 0))) (Touch.set w6 wn.heap.size k (.int .i64 (q : Int))) (by
       show (w6.setCell ⟨wn.heap.size, k, none⟩ (.int .i64 (q : Int))).heap[wn.heap.size]? = _
       rw [heap_setCell_same w6 wn.heap.size k _ 3 _ HR6.out.1, ivs_set]) (fun b hb => ⟨.inl hb, by
       have e : b = wn.heap.size := by simpa [blkI] using hb
       rw [e, World.size_setCell]; exact HR6.out.2⟩)
      rw [← HQ.out, rowB_live hlt HAB.out] at h5
      rw [nB_live HAB.out]
      rw [← HQ.out]
      exact h5
     ·show N - ((k : Int) + 1).toNat < N - ((k : Int)).toNat
      omega
   ·have hkN : k = N := by omega
    have h1 : ¬ (k : Int) < (N : Int) := by omega
    have hmp := HF.out.ok 0 _ rfl
    have hnb := HF.out.ok 1 _ rfl
    have cn : wr.cell? ⟨wm.heap.size, 0, none⟩ = some (.map (some wl.heap.size)) := by rw [Lib.cell_of_heap hnb]; rfl
    have HMP := hid (show MapIs Tryz.prog 9 wr wl.heap.size (bmap (nB D Bk lv N).2) from by rw [← hkN]; exact hmp)
    obtain ⟨d, hd⟩ : ∃ d, (nB D Bk lv N).2.length = d := ⟨_, rfl⟩
    have HLen := hid (show (bmap (nB D Bk lv N).2).length = d from by rw [bmap_len]; exact hd)
    have hdN : d ≤ N := by rw [← hd]; exact nB_few D Bk lv N
    have hrow := HF.out.ok 2 _ rfl
    have HROW := hid (show RowAtI wr (.slice (some ⟨wn.heap.size, 0, none⟩) N N) (nB D Bk lv N).1 ∧ (nB D Bk lv N).1.length = N from by
     have e : rowB D Bk lv N k = (nB D Bk lv N).1 := by rw [hkN]; unfold rowB; simp
     have hr : wr.heap[wn.heap.size]? = some (.cells (ivs (nB D Bk lv N).1) 3 (0, 0)) := by rw [← e]; exact hrow
     have := rowAt_of_block hr N
     rw [nB_len] at this
     exact ⟨this, nB_len D Bk lv N⟩)
    have HFI := hid (show X6.Finer K D Bk (nB D Bk lv N).1 d from by
     rw [← hd]
     have h7 := X6.nums_ok (fB D Bk) (aB lv) D.next.length
     rw [HNN.out] at h7
     refine (show X6.NumsOk (fB D Bk) (aB lv) D.next.length (nB D Bk lv N).1 (nB D Bk lv N).2 from by rw [HNN.out]; exact h7).finer (fun x hx => HJ.out.lv x hx) (fun x y hx hy => ⟨fun e => ?_, fun e => by unfold fB; rw [e]⟩)
     have hbd : ∀ z x, x < D.next.length → z ∈ (X6.keyB D Bk x).2.2 → -1 ≤ z ∧ z < 2147483648 := by
      intro z x hx hz
      unfold X6.keyB at hz
      simp only [List.mem_map] at hz
      obtain ⟨y, hy, rfl⟩ := hz
      have h8 := HOK.out.ends x hx y hy
      split
      ·omega
      ·refine HJ.out.bnd _ ?_
       exact X6.getD_mem (by rw [HJ.out.part.len]; omega)
     have htg : ∀ x, x < D.next.length → D.tags.getD x 0 < 256 ^ 8 := fun x hx => HT64.out _ (X6.getD_mem (by rw [HOK.out.tags]; exact hx))
     have hbk : ∀ x, x < D.next.length → -1 ≤ Bk.getD x (-1) ∧ Bk.getD x (-1) < 2147483648 := fun x hx => HJ.out.bnd _ (X6.getD_mem (by rw [HJ.out.part.len]; exact hx))
     exact keyT_inj (htg x hx) (htg y hy) (hbk x hx) (hbk y hy) (by unfold X6.keyB; simp only [List.length_map]; rw [HOK.out.rows x hx, HOK.out.rows y hy]) (fun z hz => hbd z x hx hz) (fun z hz => hbd z y hy hz) e)
    have HBND := hid (show ∀ x ∈ (nB D Bk lv N).1, -1 ≤ x ∧ x < 2147483648 from by
     intro x hx
     obtain ⟨i, hi, rfl⟩ := List.mem_iff_getElem.1 hx
     rw [HROW.out.2] at hi
     have e : ((nB D Bk lv N).1)[i] = (nB D Bk lv N).1.getD i (-1) := by rw [List.getD_eq_getElem?_getD, List.getElem?_eq_getElem]; rfl
     rw [e]
     by_cases hl : X6.Live K D (i : Int)
     ·have h8 := HFI.out.lt i (by rw [HNN.out]; exact hi) hl
      omega
     ·rw [HFI.out.dead i (by rw [HNN.out]; exact hi) hl]; omega)
    have hbw : Below wa.heap.size wa wr := HJ.out.bel.trans (HF.out.bel.mono HJ.out.bel.size)
    have HBW := hid hbw
    have HAL := hid ((HF.out.bel.block _ (Array.getElem?_eq_some_iff.1 HJ.out.al).1).trans HJ.out.al)
    have hnl := (Array.getElem?_eq_some_iff.1 hnb).1
    clear hmp hnb hrow hd hbw
    by_cases hdc2 : c < d
    ·have g1 : (c : Int) < (d : Int) := by omega
     go_wp2_with (at_len; first | (refine wpList_mlen rfl (.tmp 59) 124 rfl Tryz.underlying124 rfl HMP.out d HLen.out ?_) | (refine wpList_mlen rfl (.tmp 63) 124 rfl Tryz.underlying124 rfl HMP.out d HLen.out ?_))
     go_step3
     refine ⟨rfl, ⟨(nB D Bk lv N).1, d, _, _, ab, lv, _, _, _, _, _, _, _, _, _, _, _, _, _, _, _, _, _, _, _, _, _, _, _, _, _, _, _, _, _, _, _, _, _, _, _, _, _, _, _, _, _, _, _, _, _, _, _, _, _, _, _, _, _, _, _, _, _, _, _, _, rfl, hid ⟨HROW.out.1, HFI.out.part HOK.out HJ.out.part, HBND.out, HBW.out, HAL.out, HJ.out.ll, HJ.out.lv⟩⟩, ?_⟩
     show N + 1 - (d : Int).toNat < N + 1 - (c : Int).toNat
     omega
    ·have g1 : ¬ (c : Int) < (d : Int) := by omega
     go_wp2_with (at_len; refine wpList_mlen rfl (.tmp 59) 124 rfl Tryz.underlying124 rfl HMP.out d HLen.out ?_)
     simp only [Exit.jump]
     go_ret
     exact ⟨_, _, (nB D Bk lv N).1, rfl, HROW.out.1, HFI.out.blk HOK.out HJ.out.part (by omega), HBND.out, HBA.out.trans (HBW.out.mono (by have := HS.out; omega))⟩
 ·intro hp
  go_wp2_with (with_reducible refine wpList_load30 rfl (.tmp 1) rfl w.heap.size rfl dc HNA.out HSZ.out ?_)
  refine KL.out.mono ?_
  rintro e w1 ⟨ab, lv, rfl, hab, hal, hll, hlv, hb1⟩
  have hm1 := made_ints N hN w1
  obtain ⟨w2, e2⟩ : ∃ w2, w1.alloc (.cells (Array.replicate N (.int .i64 0)) 3) = w2 := ⟨_, rfl⟩
  have hb2 : Below w1.heap.size w1 w2 := by rw [← e2]; exact (Below.refl _ _).alloc (Nat.le_refl _) _
  have hn2 : w2.heap[w1.heap.size]? = some (.cells (ivs (b0 lv N 0)) 3 (0, 0)) := by
   rw [← e2]
   have : ivs (b0 lv N 0) = Array.replicate N (.int .i64 0) := by
    have : b0 lv N 0 = List.replicate N 0 := by
     refine List.ext_getElem? fun i => ?_
     by_cases hi : i < N
     ·rw [b0_at hi]; simp [hi]
     ·rw [List.getElem?_eq_none (by rw [b0_len]; omega), List.getElem?_eq_none (by simp; omega)]
    rw [this]
    simp [ivs]
   rw [this]
   exact new_block _ _
  have c256 := cell_bel hb1 (b := w.heap.size) (off := 256) (by have := HS.out; omega) (by rw [Lib.cell_of_heap HNA.out]; exact HD256.out)
  have HAL := hid (And.intro hab (And.intro hal (And.intro hll hlv)))
  have HB1 := hid hb1
  have HN2 := hid hn2
  have HB2 := hid hb2
  clear hab hal hll hlv hb1 hn2 hb2 KL ea
  go_wp2_with fail
  clear hm1 c256 e2
  go_loopw [19] (fun t19 wr => ∃ k : Nat, k ≤ N ∧ t19 = .int .i64 (k : Int) ∧ Hid (wr.heap[w1.heap.size]? = some (.cells (ivs (b0 lv N k)) 3 (0, 0))) ∧ Hid (Below w1.heap.size w1 wr)) (fun t19 _ => N - (RowKit.intOf t19).toNat)
  case atStart => exact ⟨0, Nat.zero_le _, rfl, HN2, HB2⟩
  case round =>
   obtain ⟨k, hk, rfl, HR, HB⟩ := hrel
   by_cases hlt : k < N
   ·have h1 : (k : Int) < (N : Int) := by omega
    have h2 : (0 : Int) ≤ (k : Int) := by omega
    obtain ⟨b, hb⟩ : ∃ b, lv[k]? = some b := ⟨_, List.getElem?_eq_getElem (by rw [HAL.out.2.2.1]; exact hlt)⟩
    have hal : wr.heap[ab]? = some (.cells (bools lv) 4 (0, 0)) := (HB.out.block _ (Array.getElem?_eq_some_iff.1 HAL.out.2.1).1).trans HAL.out.2.1
    obtain ⟨ca, _, _⟩ := bools_cell hal hb
    have hal2 : ab < wr.heap.size := (Array.getElem?_eq_some_iff.1 hal).1
    have HLV := hid (show lv.getD k false = b from by rw [List.getD_eq_getElem?_getD, hb]; rfl)
    clear hb hal
    cases b with
    | true =>
     go_wp2_with fail
     refine ⟨⟨k + 1, by omega, rfl, hid ?_, HB⟩, ?_⟩
     ·rw [b0_succ hlt, HLV.out, if_neg (by decide)]; exact HR.out
     ·show N - ((k : Int) + 1).toNat < N - ((k : Int)).toNat
      omega
    | false =>
     have cb : wr.cell? ⟨w1.heap.size, k, none⟩ = some (.int .i64 0) := by
      rw [Lib.cell_of_heap HR.out]
      have := b0_at (lv := lv) (k := k) hlt
      rw [if_neg (by omega)] at this
      simp [ivs, this]
     have fb := Lib.frozen_of_heap HR.out k
     have hlb := (Array.getElem?_eq_some_iff.1 HR.out).1
     go_wp2_with fail
     refine ⟨⟨k + 1, by omega, rfl, hid ?_, hid (HB.out.setCell (p := ⟨w1.heap.size, k, none⟩) (Nat.le_refl _) _)⟩, ?_⟩
     ·rw [b0_succ hlt, HLV.out, if_pos rfl, heap_setCell_same wr w1.heap.size k _ 3 _ HR.out, ivs_set]
     ·show N - ((k : Int) + 1).toNat < N - ((k : Int)).toNat
      omega
   ·have hkN : k = N := by omega
    have h1 : ¬ (k : Int) < (N : Int) := by omega
    go_wp2_with fail
    go_step3
    refine ‹∀ (a : Act) (w : World), Code.wp Tryz.prog _ _ a w → _› _ _ (hp _ _ ?_)
    refine ⟨b0 lv N N, 0, _, _, ab, lv, _, _, _, _, _, _, _, _, _, _, _, _, _, _, _, _, _, _, _, _, _, _, _, _, _, _, _, _, _, _, _, _, _, _, _, _, _, _, _, _, _, _, _, _, _, _, _, _, _, _, _, _, _, _, _, _, _, _, _, _, rfl, hid ?_⟩
    have hbw : Below wa.heap.size wa wr := HB1.out.trans (HB.out.mono HB1.out.size)
    rw [hkN] at HR
    refine ⟨?_, X6.Part.first (by rw [b0_len]; exact HNN.out.symm) (fun x hx => ?_), fun x hx => ?_, hbw, (HB.out.block _ (Array.getElem?_eq_some_iff.1 HAL.out.2.1).1).trans HAL.out.2.1, by rw [HAL.out.2.2.1]; exact HNN.out.symm, fun i hi => HAL.out.2.2.2 i (by rw [← HNN.out]; exact hi)⟩
    ·have := rowAt_of_block HR.out N
     rw [b0_len] at this
     exact this
    ·have hx2 : x < N := by rw [← HNN.out]; exact hx
     have e1 : (b0 lv N N).getD x (-1) = if x < N ∧ lv.getD x false = false then -1 else 0 := by rw [List.getD_eq_getElem?_getD, b0_at hx2]; rfl
     have e2 := HAL.out.2.2.2 x hx2
     cases hb : lv.getD x false with
     | true => exact .inl ⟨e2.1 hb, by rw [e1, hb, if_neg (by simp)]⟩
     | false => exact .inr ⟨(fun hl => by rw [e2.2 hl] at hb; cases hb), by rw [e1, hb, if_pos ⟨hx2, rfl⟩]⟩
    ·unfold b0 at hx
     obtain ⟨i, _, rfl⟩ := List.mem_map.1 hx
     split <;> omega
end Go.Proofs.YtochckefnjobhaaGreatDoor
