/- mini.live: which states are live. -/
import Derived.Deep.LoopGhost
import Derived.Test.YtochckefnjobhaaGreatDoorKv
namespace Go.Proofs.YtochckefnjobhaaGreatDoor
open Go Go.RowKit Go.Lib
open X5 (Aut)
set_option linter.unusedVariables false
set_option linter.unusedSimpArgs false
theorem rowsAt_get {w : World} {v : Value} {l : List (List Int)} (h : RowsAt w v l) {i : Nat} {x : List Int} (hx : l[i]? = some x) : ∃ b off o c rc, v = .slice (some ⟨b, off, none⟩) l.length rc ∧ b < w.heap.size ∧ w.cell? ⟨b, off + i, none⟩ = some (.slice o x.length c) ∧ RowAtI w (.slice o x.length c) x := by
 obtain ⟨ro, rc, rfl, h1⟩ := h
 obtain ⟨hi, rfl⟩ := List.getElem?_eq_some_iff.1 hx
 obtain ⟨b, off, rv, rfl, h2, h3, h4⟩ := h1 i hi
 obtain ⟨o, c, rfl, h5⟩ := h4
 exact ⟨b, off, o, c, rc, rfl, h2, h3, o, c, rfl, h5⟩
theorem rowAt_get {w : World} {o : Option Addr} {n c : Nat} {l : List Int} (h : RowAtI w (.slice o n c) l) {i : Nat} {x : Int} (hx : l[i]? = some x) : ∃ b off, o = some ⟨b, off, none⟩ ∧ b < w.heap.size ∧ w.cell? ⟨b, off + i, none⟩ = some (.int .i64 x) := by
 obtain ⟨ro, rc, e, h1⟩ := h
 injection e with e1 e2 e3
 subst e1
 obtain ⟨hi, rfl⟩ := List.getElem?_eq_some_iff.1 hx
 exact h1 i hi
theorem tagsAt_get {w : World} {v : Value} {l : List Nat} (h : TagsAt w v l) {i t : Nat} (hx : l[i]? = some t) : ∃ b off rc, v = .slice (some ⟨b, off, none⟩) l.length rc ∧ b < w.heap.size ∧ w.cell? ⟨b, off + i, none⟩ = some (.int .u64 (t : Int)) ∧ t < 18446744073709551616 := by
 obtain ⟨ro, rc, rfl, h1⟩ := h
 obtain ⟨hi, rfl⟩ := List.getElem?_eq_some_iff.1 hx
 obtain ⟨b, off, rfl, h2, h3, h4⟩ := h1 i hi
 exact ⟨b, off, rc, rfl, h2, h3, h4⟩
theorem rowOf_get {D : Aut} {i : Nat} (hi : i < D.next.length) : D.next[i]? = some (X5.rowOf D i) := by
 unfold X5.rowOf
 rw [List.getD_eq_getElem?_getD, List.getElem?_eq_getElem hi]; rfl
theorem tail_shape {w : World} {B : Nat} {e : TypeId} {v : Value} {xs : List Value} (h : ownsTail w B e v xs) : ∃ o c, v = .slice o xs.length c := by
 rcases h with ⟨rfl, rfl⟩ | ⟨g, off, cap, cur, rfl, _⟩
 ·exact ⟨none, 0, rfl⟩
 ·exact ⟨_, _, rfl⟩
def LO (D : Aut) (K B : Nat) (W : World) (lb fb a c : Nat) (qv : Value) (wr : World) : Prop :=
 ∃ VS XS, LS B W lb fb (X6.lv0 D a) VS qv (X6.q0 D a) XS wr ∧ X6.FromOk D K XS a c
def LW (D : Aut) (K B : Nat) (W : World) (lb fb : Nat) (lv : List Bool) (q : List Nat) (ex : Nat → Nat → Prop) (VS : List Value) (XS : List (List Nat)) (qv : Value) (wr : World) : Prop :=
 LS B W lb fb lv VS qv q XS wr ∧ X6.FromOk D K XS D.next.length 0 ∧ X6.Lv K D lv q ex
theorem cell_bel {B : Nat} {W w : World} (h : Below B W w) {b off : Nat} {x : Value} (hb : b < B) (hx : W.cell? ⟨b, off, none⟩ = some x) : w.cell? ⟨b, off, none⟩ = some x := (World.cell?_of_block (a := ⟨b, off, none⟩) (h.block b hb)).trans hx
theorem q0_le (D : Aut) (a : Nat) (h : a ≤ 1000000) : (ints (X6.q0 D a)).length ≤ 1000000 := by rw [List.length_map]; have := X6.q0_len D a; omega
set_option maxRecDepth 100000 in
set_option maxHeartbeats 8000000 in
theorem live_any {w : World} {nv tv : Value} {D : Aut} {K : Nat} (h : DAt w nv tv D) (hD : X6.Ok D K) (hN : D.next.length ≤ 1000000) (hNK : D.next.length * K ≤ 1000000) :
  Calls Tryz.prog 47 #[.agg (dval D nv tv)] w fun e w' => ∃ g lv, e = .returned (.slice (some ⟨g, 0, none⟩) D.next.length D.next.length) ∧ w.heap.size ≤ g ∧ w'.heap[g]? = some (.cells (bools lv) 4 (0, 0)) ∧
   lv.length = D.next.length ∧ (∀ i, i < D.next.length → (lv.getD i false = true ↔ X6.Live K D (i : Int))) ∧ Below w.heap.size w w' := by
 obtain ⟨dc, hdc⟩ : ∃ dc, dval D nv tv = dc := ⟨_, rfl⟩
 have HD256 := hid (dcell_next h.len nv tv)
 have HD257 := hid (dcell_tags h.len nv tv)
 rw [hdc] at HD256 HD257 ⊢
 have HDC := hid hdc
 obtain ⟨wa, ea⟩ : ∃ wa, w.alloc (.cells dc 26) = wa := ⟨_, rfl⟩
 have hba : Below w.heap.size w wa := by rw [← ea]; exact (Below.refl _ _).alloc (Nat.le_refl _) _
 have hna : wa.heap[w.heap.size]? = some (.cells dc 26 (0, 0)) := by rw [← ea]; exact new_block _ _
 have hsa : wa.heap.size = w.heap.size + 1 := by rw [← ea]; simp
 have hda := h.below hba
 obtain ⟨no, nc, hno⟩ : ∃ no nc, nv = .slice no D.next.length nc := by
  obtain ⟨ro, rc, e, _⟩ := h.rows
  exact ⟨ro, rc, e⟩
 subst hno
 obtain ⟨to, tc, hto⟩ : ∃ to tc, tv = .slice to D.tags.length tc := by
  obtain ⟨ro, rc, e, _⟩ := h.tags
  exact ⟨ro, rc, e⟩
 subst hto
 obtain ⟨N, hNN⟩ : ∃ N, D.next.length = N := ⟨_, rfl⟩
 have htl : D.tags.length = N := by rw [hD.tags]; exact hNN
 rw [hNN] at hN hNK HD256 hda ⊢
 rw [htl] at HD257 hda
 have hm1 := made_bools N hN wa
 obtain ⟨w1, e1⟩ : ∃ w1, wa.alloc (.cells (Array.replicate N (.bool false)) 4) = w1 := ⟨_, rfl⟩
 have hm2 := made_rows N hN w1
 obtain ⟨w2, e2⟩ : ∃ w2, w1.alloc (.cells (Array.replicate N nil1) 87) = w2 := ⟨_, rfl⟩
 have hb1 : Below wa.heap.size wa w1 := by rw [← e1]; exact (Below.refl _ _).alloc (Nat.le_refl _) _
 have hs1 : w1.heap.size = wa.heap.size + 1 := by rw [← e1]; simp
 have hb2 : Below w1.heap.size w1 w2 := by rw [← e2]; exact (Below.refl _ _).alloc (Nat.le_refl _) _
 have hs2 : w2.heap.size = w1.heap.size + 1 := by rw [← e2]; simp
 have c256 : wa.cell? ⟨w.heap.size, 256, none⟩ = some (.slice no N nc) := by rw [Lib.cell_of_heap hna]; exact HD256.out
 have c256b : w1.cell? ⟨w.heap.size, 256, none⟩ = some (.slice no N nc) := (World.cell?_of_block (a := ⟨w.heap.size, 256, none⟩) (hb1.block w.heap.size (by omega))).trans c256
 have c256c : w2.cell? ⟨w.heap.size, 256, none⟩ = some (.slice no N nc) := (World.cell?_of_block (a := ⟨w.heap.size, 256, none⟩) (hb2.block w.heap.size (by omega))).trans c256b
 have HLO := hid (show LO D K wa.heap.size wa wa.heap.size w1.heap.size 0 0 nil1 w2 from by
  refine ⟨List.replicate N nil1, List.replicate N [], ⟨?_, by simp⟩, by rw [← hNN]; exact X6.FromOk.zero D K⟩
  have e0 : bools (X6.lv0 D 0) = Array.replicate N (.bool false) := by
   unfold bools
   have : X6.lv0 D 0 = List.replicate N false := by
    refine List.ext_getElem? fun i => ?_
    by_cases hi : i < D.next.length
    ·rw [X6.lv0_at hi, List.getElem?_replicate, if_pos (by omega)]; simp
    ·rw [List.getElem?_eq_none (by rw [X6.lv0_len]; omega), List.getElem?_eq_none (by simp; omega)]
   rw [this]
   simp
  have key : ∀ (i : Nat) x, (inn wa.heap.size (List.replicate N nil1) (List.replicate N []))[i]? = some x → x = rowI wa.heap.size 3 nil1 [] := by
   intro i x hx
   unfold inn at hx
   rw [List.getElem?_zipWith, List.getElem?_replicate, List.getElem?_replicate] at hx
   by_cases hi : i < N
   ·rw [if_pos hi, if_pos hi] at hx
    injection hx with hx
    exact hx.symm
   ·rw [if_neg hi] at hx; cases hx
  have hl0 : w2.heap[wa.heap.size]? = some (.cells (Array.replicate N (.bool false)) 4 (0, 0)) := (hb2.block _ (by omega)).trans (by rw [← e1]; exact new_block _ _)
  have hf0 : w2.heap[w1.heap.size]? = some (.cells (Array.replicate N nil1) 87 (0, 0)) := by rw [← e2]; exact new_block _ _
  refine ⟨hb1.trans (hb2.mono hb1.size), Nat.le_refl _, ?_, ?_, ?_⟩
  ·intro i x hx
   match i, hx with
   | 0, hx => injection hx with hx; rw [← hx]; show w2.heap[wa.heap.size]? = some (.cells (bools (X6.lv0 D 0)) 4 (0, 0)); rw [e0]; exact hl0
   | 1, hx => injection hx with hx; rw [← hx]; show w2.heap[w1.heap.size]? = some (.cells (List.replicate N nil1).toArray 87 (0, 0)); rw [hf0]; simp
   | 2, hx => injection hx with hx; rw [← hx]; exact .inl ⟨rfl, rfl⟩
   | i + 3, hx => rw [key i x hx]; exact World.ownsRow_nil w2 _ 3 1
  ·intro i x hx b hb
   match i, hx with
   | 0, hx => injection hx with hx; rw [← hx] at hb; have : b = wa.heap.size := by simpa [blkI] using hb
              omega
   | 1, hx => injection hx with hx; rw [← hx] at hb; have : b = w1.heap.size := by simpa [blkI] using hb
              omega
   | 2, hx => injection hx with hx; rw [← hx] at hb; simp [tailI, Value.ownBlock, nil1] at hb
   | i + 3, hx => rw [key i x hx] at hb; simp [rowI, Value.ownBlock, nil1] at hb
  ·intro i j x y b hx hy hbx hby
   have loc : ∀ (i : Nat) x, (blkI wa.heap.size (.cells (bools (X6.lv0 D 0)) 4 (0, 0)) :: blkI w1.heap.size (.cells (List.replicate N nil1).toArray 87 (0, 0)) :: tailI wa.heap.size 3 nil1 (ints (X6.q0 D 0)) :: inn wa.heap.size (List.replicate N nil1) (List.replicate N []))[i]? = some x → b ∈ x.bl → (i = 0 ∧ b = wa.heap.size) ∨ (i = 1 ∧ b = w1.heap.size) := by
    intro i x hx hb
    match i, hx with
    | 0, hx => injection hx with hx; rw [← hx] at hb; exact .inl ⟨rfl, by simpa [blkI] using hb⟩
    | 1, hx => injection hx with hx; rw [← hx] at hb; exact .inr ⟨rfl, by simpa [blkI] using hb⟩
    | 2, hx => injection hx with hx; rw [← hx] at hb; simp [tailI, Value.ownBlock, nil1] at hb
    | i + 3, hx => rw [key i x hx] at hb; simp [rowI, Value.ownBlock, nil1] at hb
   rcases loc i x hx hbx with ⟨i1, i2⟩ | ⟨i1, i2⟩ <;> rcases loc j y hy hby with ⟨j1, j2⟩ | ⟨j1, j2⟩ <;> omega)
 have HDA := hid hda
 have HOK := hid hD
 have HNA := hid hna
 have HBA := hid hba
 have HNN := hid hNN
 have HTL := hid htl
 have HS := hid (And.intro hsa (And.intro hs1 hs2))
 have HB12 := hid (hb1.trans (hb2.mono hb1.size))
 have HDD := hid (And.intro HD256.out HD257.out)
 clear h hdc hda hD hna hba hNN htl hb1 hb2 hsa hs1 hs2 HD256 HD257 HDC
 go_enter Tryz.func47, Tryz.ntmps47
 go_wp2_with fail
 clear e1 e2 hm1 hm2 c256 c256b c256c ea
 go_loopw [5, 24] (fun t5 t24 wr => ∃ (a : Nat) (o : Option Addr) (cq : Nat), a ≤ N ∧ t24 = .int .i64 (a : Int) ∧ t5 = .slice o (X6.q0 D a).length cq ∧ Hid (LO D K wa.heap.size wa wa.heap.size w1.heap.size a 0 (.slice o (X6.q0 D a).length cq) wr)) (fun _ t24 _ => N - (RowKit.intOf t24).toNat)
 case atStart => exact ⟨0, none, 0, Nat.zero_le _, rfl, rfl, HLO⟩
 case round =>
  obtain ⟨a, qo, qc, ha, rfl, rfl, HO⟩ := hrel
  by_cases hlt : a < N
  ·have h1 : (a : Int) < (N : Int) := by omega
   have h2 : (0 : Int) ≤ (a : Int) := by omega
   have haD : a < D.next.length := by rw [HNN.out]; exact hlt
   obtain ⟨bn, offn, ro, rc, nc', hno, hbn, cn, hrow⟩ := rowsAt_get HDA.out.rows (rowOf_get haD)
   injection hno with hno1 hno2 hno3
   subst hno1
   have hrl := HOK.out.rows a haD
   rw [hrl] at cn hrow
   obtain ⟨VS, XS, hls, hfo⟩ := HO.out
   have cn' := cell_bel hls.foot.bel hbn cn
   have hKl : K ≤ 1000000 := by
    have h3 : 1 * K ≤ N * K := Nat.mul_le_mul_right K (by omega)
    omega
   have HROW := hid hrow
   have HRL := hid hrl
   have HHO := hid (show LO D K wa.heap.size wa wa.heap.size w1.heap.size a 0 (.slice qo (X6.q0 D a).length qc) wr from ⟨VS, XS, hls, hfo⟩)
   clear hno2 hno3 cn hrow hrl hls hfo HO
   generalize hqn : (X6.q0 D a).length = qn at *
   have HQN := hid hqn
   clear hqn
   go_wp2_with fail
   clear cn'
   go_loopw [31] (fun t31 wr => ∃ c : Nat, c ≤ K ∧ t31 = .int .i64 (c : Int) ∧ Hid (LO D K wa.heap.size wa wa.heap.size w1.heap.size a c (.slice qo qn qc) wr)) (fun t31 _ => K - (RowKit.intOf t31).toNat)
   case atStart => exact ⟨0, Nat.zero_le _, rfl, HHO⟩
   case round =>
    obtain ⟨c, hc, rfl, HI⟩ := hrel
    clear HHO
    by_cases hlc : c < K
    ·have h3 : (c : Int) < (K : Int) := by omega
     have h4 : (0 : Int) ≤ (c : Int) := by omega
     obtain ⟨z, hz⟩ : ∃ z, (X5.rowOf D a)[c]? = some z := ⟨_, List.getElem?_eq_getElem (by rw [HRL.out]; exact hlc)⟩
     obtain ⟨br, offr, hro, hbr, cr⟩ := rowAt_get HROW.out hz
     subst hro
     have hzb := HOK.out.ends a haD z (List.mem_of_getElem? hz)
     obtain ⟨VS, XS, hls, hfo⟩ := HI.out
     have cr' := cell_bel hls.foot.bel hbr cr
     have HZ := hid hz
     have HFO := hid hfo
     clear cr hz hfo HI
     by_cases hz0 : z < 0
     ·have h5 : decide (0 ≤ z) = false := by simpa using hz0
      have HLS := hid hls
      clear hls
      go_wp2_with fail
      refine ⟨⟨c + 1, by omega, rfl, hid ⟨VS, XS, HLS.out, HFO.out.skip HZ.out hz0⟩⟩, ?_⟩
      show K - ((c : Int) + 1).toNat < K - ((c : Int)).toNat
      omega
     ·obtain ⟨m, rfl⟩ : ∃ m : Nat, z = (m : Int) := ⟨z.toNat, by omega⟩
      have hm : m < D.next.length := by omega
      obtain ⟨xs, hxs⟩ : ∃ xs, XS[m]? = some xs := ⟨_, List.getElem?_eq_getElem (by rw [HFO.out.len]; exact hm)⟩
      obtain ⟨vo, vc, hv, hown, cf, ff, hfl⟩ := hls.row hxs
      obtain ⟨w4, e4⟩ : ∃ w4, wr.alloc (.cells #[.int .i64 (a : Int)] 3) = w4 := ⟨_, rfl⟩
      have hb4 : Below wr.heap.size wr w4 := by rw [← e4]; exact (Below.refl _ _).alloc (Nat.le_refl _) _
      have HN4 := hid (show w4.heap[wr.heap.size]? = some (.cells #[.int .i64 (a : Int)] 3 (0, 0)) from by rw [← e4]; exact new_block _ _)
      have HO4 := hid (owns_kept hown fun g hg => hb4.block g (owns_lt hown g hg).2)
      have HL4 := hid (hls.below hb4)
      have HX := hid (And.intro hxs hv)
      have hxl : xs.length ≤ 1000000 := by
       have h6 := HFO.out.few m hm
       rw [List.getD_eq_getElem?_getD, hxs, Option.getD_some] at h6
       have h7 : (a + 1) * K ≤ N * K := Nat.mul_le_mul_right K (by omega)
       rw [Nat.add_mul, Nat.one_mul] at h7
       omega
      have HXL := hid (And.intro hxl (Nat.le_trans hls.le hb4.size))
      have h5 : decide ((0 : Int) ≤ (m : Int)) = true := by simp
      have h8 : (m : Int) < (N : Int) := by have := HNN.out; omega
      have h9 : (0 : Int) ≤ (m : Int) := by omega
      clear hls hb4 hown hxs hv hxl hz0
      go_wp2_with (at_builtin; refine wpList_push1 rfl (.tmp 42) (.tmp 44) 87 3 rfl (.int .i64 0) 8 Tryz.underlying87 info3 rfl (by decide) wa.heap.size (.slice vo xs.length vc) xs.length (ints xs) rfl HO4.out wr.heap.size rfl (.int .i64 (a : Int)) HN4.out rfl HXL.out.1 HXL.out.2 ?_)
      intro v5 w5 hown5 hg5 hat5
      obtain ⟨so5, sc5, rfl⟩ := own_shape hown5
      have HL5 := hid (HL4.out.push_row HX.out.1 HX.out.2 hown5 hg5 hat5)
      have hf5 := HL4.out.row_kept HX.out.1 HX.out.2 hg5
      have cf5 : w5.cell? ⟨w1.heap.size, m, none⟩ = some (.slice vo xs.length vc) := by
       rw [Lib.cell_of_heap hf5]
       simpa using HX.out.2
      have ff5 := Lib.frozen_of_heap hf5 m
      have HG := hid (show XS.getD m [] = xs from by rw [List.getD_eq_getElem?_getD, HX.out.1]; rfl)
      clear hown5 hg5 hat5 hf5 e4
      go_wp2_with fail
      refine ⟨⟨c + 1, by omega, rfl, hid ⟨_, _, HL5.out, by have h10 := HFO.out.push HZ.out hm; rw [HG.out] at h10; exact h10⟩⟩, ?_⟩
      show K - ((c : Int) + 1).toNat < K - ((c : Int)).toNat
      omega
    ·have hcK : c = K := by omega
     have h3 : ¬ (c : Int) < (K : Int) := by omega
     obtain ⟨tt, htt⟩ : ∃ tt, D.tags[a]? = some tt := ⟨_, List.getElem?_eq_getElem (by rw [HTL.out]; exact hlt)⟩
     obtain ⟨bt, offt, tc', hto, hbt, ct, ht64⟩ := tagsAt_get HDA.out.tags htt
     injection hto with hto1 hto2 hto3
     subst hto1
     obtain ⟨VS, XS, hls, hfo⟩ := HI.out
     have c257 := cell_bel hls.foot.bel (b := w.heap.size) (off := 257) (by have := HS.out; omega) (by rw [Lib.cell_of_heap HNA.out]; exact HDD.out.2)
     have ct' := cell_bel hls.foot.bel hbt ct
     have hTB : X6.tagB D a = decide (tt ≠ 0) := by unfold X6.tagB; rw [List.getD_eq_getElem?_getD, htt]; rfl
     have HF1 := hid (show X6.FromOk D K XS (a + 1) 0 from by rw [hcK] at hfo; exact hfo.next HRL.out)
     have HTB := hid hTB
     have hL0 := hid (X6.lv0_succ haD)
     have hQ0 := hid (X6.q0_succ D a)
     clear hto2 hto3 ct hfo HI htt hTB hcK ht64
     by_cases ht0 : tt = 0
     ·have h5 : ((tt : Int) != 0) = false := by rw [ht0]; rfl
      have hT : X6.tagB D a = false := by rw [HTB.out, ht0]; rfl
      have HLS := hid hls
      have HT0 := hid hT
      clear hls hT ht0
      go_wp2_with fail
      refine ⟨⟨a + 1, qo, qc, by omega, rfl, ?_, ?_⟩, ?_⟩
      ·rw [hQ0.out, HT0.out, ← HQN.out]; rfl
      ·refine hid ⟨VS, XS, ?_, HF1.out⟩
       rw [hL0.out, hQ0.out, HT0.out]
       have h6 := HLS.out
       rw [← HQN.out] at h6
       exact h6
      ·show N - ((a : Int) + 1).toNat < N - ((a : Int)).toNat
       omega
     ·have h5 : ((tt : Int) != 0) = true := by rw [bne_iff_ne]; omega
      have hT : X6.tagB D a = true := by rw [HTB.out]; simpa using ht0
      obtain ⟨b0, hb0⟩ : ∃ b0, (X6.lv0 D a)[a]? = some b0 := ⟨_, X6.lv0_at haD⟩
      obtain ⟨l1, l2, l3⟩ := hls.lv_at hb0
      obtain ⟨w4, e4⟩ : ∃ w4, wr.setCell ⟨wa.heap.size, a, none⟩ (.bool true) = w4 := ⟨_, rfl⟩
      have hls4 := hls.mark (i := a) (by rw [X6.lv0_len]; exact haD)
      rw [e4] at hls4
      obtain ⟨w5, e5⟩ : ∃ w5, w4.alloc (.cells #[.int .i64 (a : Int)] 3) = w5 := ⟨_, rfl⟩
      have hb5 : Below w4.heap.size w4 w5 := by rw [← e5]; exact (Below.refl _ _).alloc (Nat.le_refl _) _
      have HN5 := hid (show w5.heap[w4.heap.size]? = some (.cells #[.int .i64 (a : Int)] 3 (0, 0)) from by rw [← e5]; exact new_block _ _)
      have HL5 := hid (hls4.below hb5)
      have HT0 := hid hT
      have HTL5 := hid (And.intro HL5.out.qAt (And.intro (q0_le D a (by omega)) HL5.out.le))
      clear hls hls4 hb5 hT ht0 hb0
      go_wp2_with (at_builtin; refine wpList_push_tail rfl (.tmp 57) (.tmp 59) 87 3 rfl (.int .i64 0) 8 Tryz.underlying87 info3 rfl (by decide) wa.heap.size (.slice qo qn qc) (ints (X6.q0 D a)) rfl HTL5.out.1 w4.heap.size rfl (.int .i64 (a : Int)) HN5.out rfl HTL5.out.2.1 HTL5.out.2.2 ?_)
      intro ao6 c6 w6 hown6 hg6 hat6
      have HL6 := hid (HL5.out.push_q hown6 hg6 hat6)
      clear hown6 hg6 hat6 e4 e5
      go_wp2_with fail
      refine ⟨⟨a + 1, ao6, c6, by omega, rfl, ?_, ?_⟩, ?_⟩
      ·rw [hQ0.out, HT0.out]; simp
      ·refine hid ⟨VS, XS, ?_, HF1.out⟩
       rw [hL0.out, hQ0.out, HT0.out]
       have h6 := HL6.out
       try rw [show (ints (X6.q0 D a)).length = (X6.q0 D a).length from List.length_map _] at h6
       simp only [if_true, List.length_append, List.length_singleton]
       exact h6
      ·show N - ((a : Int) + 1).toNat < N - ((a : Int)).toNat
       omega
  ·obtain rfl : a = N := by omega
   have h1 : ¬ (a : Int) < (a : Int) := by omega
   obtain ⟨VS, XS, hls, hfo⟩ := HO.out
   have HN2 := HNN
   obtain ⟨lv, hlv⟩ : ∃ lv, X6.lv0 D D.next.length = lv := ⟨_, rfl⟩
   obtain ⟨q, hq⟩ : ∃ q, X6.q0 D D.next.length = q := ⟨_, rfl⟩
   have HLW := hid (show LW D K wa.heap.size wa wa.heap.size w1.heap.size lv q (fun _ _ => False) VS XS (.slice qo q.length qc) wr from by
    rw [← hlv, ← hq]
    refine ⟨?_, ?_, X6.Lv.start K D⟩
    ·rw [HNN.out]; exact hls
    ·rw [HNN.out]; exact hfo)
   have HTD := hid (show X6.todo lv q ≤ 1000000 from by rw [← hlv, ← hq, X6.todo_start]; have := HNN.out; omega)
   have hqe : X6.q0 D a = q := by rw [← HNN.out]; exact hq
   rw [hqe]
   clear hls hfo HO HLO hlv hq hqe
   go_wp2_with fail
   go_loopg [5] (X6.todo lv q) (fun gk t5 wr => ∃ (lv : List Bool) (q : List Nat) (VS : List Value) (XS : List (List Nat)) (o : Option Addr) (cq : Nat), gk = X6.todo lv q ∧ Hid (X6.todo lv q ≤ 1000000) ∧ t5 = .slice o q.length cq ∧ Hid (LW D K wa.heap.size wa wa.heap.size w1.heap.size lv q (fun _ _ => False) VS XS (.slice o q.length cq) wr))
   case atStart => exact ⟨lv, q, VS, XS, qo, qc, rfl, HTD, rfl, HLW⟩
   case round =>
    clear HLW
    obtain ⟨lv, q, VS, XS, qo', qc', hgk, HTM, rfl, HW⟩ := hrel
    obtain ⟨hls, hfo, hlv⟩ := HW.out
    have HG := hid hgk
    clear hgk HW
    cases q with
    | nil =>
     have h2 : ((0 : Int) < ((([] : List Nat).length : Nat) : Int)) = False := by simp
     have HL := hid (And.intro (hlv.live HOK.out) (And.intro hls.lAt hls.foot.bel))
     clear hls hfo hlv
     go_wp2_with fail
     go_ret
     exact ⟨wa.heap.size, lv, rfl, by have := HS.out; omega, HL.out.2.1, by rw [HL.out.1.1]; exact HNN.out, fun i hi => HL.out.1.2 i (by rw [HNN.out]; exact hi), HBA.out.trans (HL.out.2.2.mono (by have := HS.out; omega))⟩
    | cons x q =>
     have hxa := (hlv.qin x (by simp)).1
     obtain ⟨g, off, hgo⟩ : ∃ g off, qo' = some ⟨g, off, none⟩ := by
      rcases hls.qAt with ⟨_, h0⟩ | ⟨g, off, cap, cur, h0, _⟩
      ·simp at h0
      ·injection h0 with h0 _ _
       exact ⟨g, off, h0⟩
     subst hgo
     obtain ⟨cx, hc0, hcm, hqc, hlp, hlp1⟩ := LS.pop_q hls
     obtain ⟨xs, hxs⟩ : ∃ xs, XS[x]? = some xs := ⟨_, List.getElem?_eq_getElem (by rw [hfo.len]; exact hxa)⟩
     obtain ⟨vo, vc, hv, hown, cf, ff, hfl⟩ := hls.row hxs
     have hpop := hlv.pop hfo
     have hxsD : XS.getD x [] = xs := by rw [List.getD_eq_getElem?_getD, hxs]; rfl
     rw [hxsD] at hpop
     have HLX := hid (hlv.qin x (by simp)).2
     have HP := hid (show LW D K wa.heap.size wa wa.heap.size w1.heap.size lv q (fun i p => i = x ∧ p ∈ xs.drop 0) VS XS (.slice (some ⟨g, off + 1, none⟩) q.length (qc' - 1)) wr from ⟨hlp, hfo, hpop⟩)
     have HP1 := hid (show qc' = 1 → q = [] ∧ LW D K wa.heap.size wa wa.heap.size w1.heap.size lv q (fun i p => i = x ∧ p ∈ xs.drop 0) VS XS (.slice (some ⟨g, off, none⟩) 0 0) wr from fun h => ⟨(hlp1 h).1, (hlp1 h).2, hfo, hpop⟩)
     have HX := hid (And.intro hxs hv)
     have HOW := hid hown
     have h2 : (x : Int) < (a : Int) := by have := HNN.out; omega
     have h3 : (0 : Int) ≤ (x : Int) := by omega
     obtain ⟨n1, hn1⟩ : ∃ n1, (x :: q).length = n1 := ⟨_, rfl⟩
     have hn2 : n1 = q.length + 1 := by rw [← hn1]; rfl
     have h4 : (0 : Int) < (n1 : Int) := by omega
     have h5 : (1 : Int) ≤ (n1 : Int) := by omega
     have h6 : (n1 : Int) ≤ (qc' : Int) := by omega
     rw [hn1]
     have HN1 := hid hn2
     clear hls hfo hlv hlp hlp1 hown hxs hv hpop hxsD hn1 hn2 hxa
     unfold maxLen at hcm
     go_wp2_with fail
     all_goals
      obtain ⟨v5, HP5, hv5⟩ : ∃ v5, Hid (LW D K wa.heap.size wa wa.heap.size w1.heap.size lv q (fun i p => i = x ∧ p ∈ xs.drop 0) VS XS v5 wr) ∧ (Value.slice (some ⟨g, off, none⟩) (n1 - 1) 0 = v5 ∧ qc' = 1 ∨ Value.slice (some ⟨g, off + 1, none⟩) (n1 - 1) (qc' - 1) = v5 ∧ ¬ qc' = 1) := by
       by_cases h : qc' = 1
       ·refine ⟨_, ?_, .inl ⟨rfl, h⟩⟩
        have e := (HP1.out h).1
        have e0 : q.length = 0 := by rw [e]; rfl
        have e1 : n1 - 1 = 0 := by have := HN1.out; omega
        rw [e1]
        exact hid (HP1.out h).2
       ·refine ⟨_, ?_, .inr ⟨rfl, h⟩⟩
        have e1 : n1 - 1 = q.length := by have := HN1.out; omega
        rw [e1]
        exact HP
      first
        | (rw [(show Value.slice (some ⟨g, off, none⟩) (n1 - 1) 0 = v5 from by
            rcases hv5 with ⟨h1, _⟩ | ⟨_, h2⟩
            · exact h1
            · exact absurd (by assumption) h2)])
        | (rw [(show Value.slice (some ⟨g, off + 1, none⟩) (n1 - 1) (qc' - 1) = v5 from by
            rcases hv5 with ⟨_, h1⟩ | ⟨h2, _⟩
            · exact absurd h1 (by assumption)
            · exact h2)])
      obtain ⟨o5, c5, hv6⟩ := tail_shape HP5.out.1.qAt
      rw [show (ints q).length = q.length from List.length_map _] at hv6
      clear hv5
      subst hv6
      have HP6 := HP5
      clear HP HP1 HP5 cx hc0 hcm hqc cf ff hfl h4 h5 h6 HOW
      try clear h
      go_loopw [5, 75] (fun t5 t75 wr => ∃ (c : Nat) (lv2 : List Bool) (q2 : List Nat) (o : Option Addr) (cq : Nat), c ≤ xs.length ∧ t75 = .int .i64 (c : Int) ∧ t5 = .slice o q2.length cq ∧ Hid (LW D K wa.heap.size wa wa.heap.size w1.heap.size lv2 q2 (fun i p => i = x ∧ p ∈ xs.drop c) VS XS (.slice o q2.length cq) wr) ∧ Hid (X6.todo lv2 q2 = X6.todo lv q ∧ lv2.getD x false = true)) (fun _ t75 _ => xs.length - (RowKit.intOf t75).toNat)
      case atStart => exact ⟨0, lv, q, o5, c5, Nat.zero_le _, rfl, rfl, HP6, hid ⟨rfl, HLX.out⟩⟩
      case round =>
       clear HP6
       obtain ⟨c, lv2, q2, o2, cq2, hc, rfl, rfl, HW2, HT2⟩ := hrel
       by_cases hlc : c < xs.length
       ·have h4 : (c : Int) < (xs.length : Int) := by omega
        have h5 : (0 : Int) ≤ (c : Int) := by omega
        obtain ⟨hls, hfo, hlv⟩ := HW2.out
        obtain ⟨vo', vc', hv', hown, cf, ff, hfl⟩ := hls.row HX.out.1
        have hvv := HX.out.2
        rw [hv'] at hvv
        injection hvv with hvv
        injection hvv with e1 _ e3
        subst e1 e3
        obtain ⟨y, hy⟩ : ∃ y, xs[c]? = some y := ⟨_, List.getElem?_eq_getElem hlc⟩
        obtain ⟨gx, hgx, cx, hgl⟩ := own_at hown hlc (x := .int .i64 (y : Int)) (by rw [List.getElem?_map, hy]; rfl)
        subst hgx
        have hxa := (show x < D.next.length from by have := HNN.out; omega)
        have hmem : y < D.next.length ∧ (x : Int) ∈ X5.rowOf D y := by
         have := (hfo.mem x hxa y).1 (by rw [List.getD_eq_getElem?_getD, HX.out.1]; exact List.mem_of_getElem? hy)
         rcases this with ⟨k1, k2⟩ | ⟨k1, k2⟩
         ·exact ⟨k1, k2⟩
         ·simp at k2
        have h6 : (y : Int) < (a : Int) := by have := HNN.out; omega
        have h7 : (0 : Int) ≤ (y : Int) := by omega
        obtain ⟨b0, hb0⟩ : ∃ b0, lv2[y]? = some b0 := ⟨_, List.getElem?_eq_getElem (by rw [hlv.len]; exact hmem.1)⟩
        obtain ⟨l1, l2, l3⟩ := hls.lv_at hb0
        have hq2 : q2.length ≤ 1000000 := by
         have k1 : q2.length ≤ X6.todo lv2 q2 := by unfold X6.todo; omega
         have k2 := HT2.out.1
         have k3 := HTM.out
         have k4 : X6.todo lv q + 1 = X6.todo lv (x :: q) := by unfold X6.todo; simp; omega
         omega
        have hxl : xs.length ≤ 1000000 := by
         have k1 := hfo.few x hxa
         rw [List.getD_eq_getElem?_getD, HX.out.1, Option.getD_some] at k1
         have k2 := HNN.out
         rw [k2] at k1
         omega
        cases b0 with
        | true =>
         have HY := hid hy
         have HB := hid (show lv2.getD y false = true from by rw [List.getD_eq_getElem?_getD, hb0]; rfl)
         clear hls hfo hlv hown hv' hy hb0 hmem hxa
         go_wp2_with fail
         refine ⟨⟨c + 1, lv2, q2, o2, cq2, by omega, rfl, rfl, hid ⟨HW2.out.1, HW2.out.2.1, HW2.out.2.2.old HY.out HB.out⟩, HT2⟩, ?_⟩
         show xs.length - ((c : Int) + 1).toNat < xs.length - ((c : Int)).toNat
         omega
        | false =>
         obtain ⟨w4, e4⟩ : ∃ w4, wr.setCell ⟨wa.heap.size, y, none⟩ (.bool true) = w4 := ⟨_, rfl⟩
         have hls4 := hls.mark (i := y) (by rw [hlv.len]; exact hmem.1)
         rw [e4] at hls4
         obtain ⟨w5, e5⟩ : ∃ w5, w4.alloc (.cells #[.int .i64 (y : Int)] 3) = w5 := ⟨_, rfl⟩
         have hb5 : Below w4.heap.size w4 w5 := by rw [← e5]; exact (Below.refl _ _).alloc (Nat.le_refl _) _
         have HN5 := hid (show w5.heap[w4.heap.size]? = some (.cells #[.int .i64 (y : Int)] 3 (0, 0)) from by rw [← e5]; exact new_block _ _)
         have HL5 := hid (hls4.below hb5)
         have HTL5 := hid (And.intro HL5.out.qAt (And.intro (show (ints q2).length ≤ 1000000 from by rw [List.length_map]; exact hq2) HL5.out.le))
         have HLV := hid (hlv.new HOK.out hy hmem.1 hxa HT2.out.2 hmem.2)
         have HFO := hid hfo
         have HTQ := hid (show X6.todo (lv2.set y true) (q2 ++ [y]) = X6.todo lv2 q2 ∧ (lv2.set y true).getD x false = true from by
          have k1 := X6.count_set (lv := lv2) (y := y) (by rw [List.getD_eq_getElem?_getD, hb0]; rfl)
          refine ⟨by unfold X6.todo; rw [List.length_append, List.length_singleton]; omega, ?_⟩
          rw [X6.set_getD (by rw [hlv.len]; exact hmem.1)]
          split
          ·rfl
          ·exact HT2.out.2)
         clear hls hls4 hb5 hfo hlv hown hv' hy hb0 hmem hxa
         go_wp2_with (at_builtin; refine wpList_push_tail rfl (.tmp 87) (.tmp 89) 87 3 rfl (.int .i64 0) 8 Tryz.underlying87 info3 rfl (by decide) wa.heap.size (.slice o2 q2.length cq2) (ints q2) rfl HTL5.out.1 w4.heap.size rfl (.int .i64 (y : Int)) HN5.out rfl HTL5.out.2.1 HTL5.out.2.2 ?_)
         intro ao6 c6 w6 hown6 hg6 hat6
         have HL6 := hid (HL5.out.push_q hown6 hg6 hat6)
         clear hown6 hg6 hat6 e4 e5
         go_wp2_with fail
         refine ⟨⟨c + 1, lv2.set y true, q2 ++ [y], ao6, c6, by omega, rfl, by simp, hid ⟨?_, HFO.out, HLV.out⟩, hid ⟨HTQ.out.1.trans HT2.out.1, HTQ.out.2⟩⟩, ?_⟩
         ·have h8 := HL6.out
          try rw [show (ints q2).length = q2.length from List.length_map _] at h8
          rw [List.length_append, List.length_singleton]
          exact h8
         ·show xs.length - ((c : Int) + 1).toNat < xs.length - ((c : Int)).toNat
          omega
       ·have hcx : c = xs.length := by omega
        have h4 : ¬ (c : Int) < (xs.length : Int) := by omega
        go_wp2_with fail
        go_roundg (gk - 1)
        case measure => have := HG.out; simp [X6.todo] at this; omega
        case rel => exact ⟨lv2, q2, VS, XS, o2, cq2, by have k1 := HG.out; have k2 := HT2.out.1; simp [X6.todo] at k1 k2 ⊢; omega, hid (by have k2 := HT2.out.1; have k3 := HTM.out; simp [X6.todo] at k2 k3 ⊢; omega), rfl, hid ⟨HW2.out.1, HW2.out.2.1, by have := HW2.out.2.2; rw [hcx] at this; exact this.done⟩⟩
end Go.Proofs.YtochckefnjobhaaGreatDoor
