/- mini.keyOf: what tells a state apart. -/
import Derived.Test.YtochckefnjobhaaGreatDoorKt
import Derived.Test.YtochckefnjobhaaGreatDoorKw
namespace Go.Proofs.YtochckefnjobhaaGreatDoor
open Go Go.RowKit Go.Lib
open X5 (Aut)
set_option linter.unusedVariables false
set_option linter.unusedSimpArgs false
theorem own_more {w w' : World} {B n : Nat} {e : TypeId} {v : Value} {xs : List Value} (h : w.ownsRow B e 1 v n xs) (hb : Below w.heap.size w w') : w'.ownsRow B e 1 v n xs := owns_kept h fun g hg => hb.block g (owns_lt h g hg).2
theorem shr_byte (t k : Nat) : (t : Int) / 2 ^ (8 * k) % 256 = ((UInt8.ofNat (t / 256 ^ k % 256)).toNat : Int) := by
 have e : (2 : Int) ^ (8 * k) = ((256 ^ k : Nat) : Int) := by rw [Int.pow_mul]; simp
 rw [e, UInt8.toNat_ofNat', ← Int.natCast_ediv]
 omega
theorem byteCells_snoc (l : List UInt8) (b : UInt8) : Lib.byteCells (l ++ [b]) = Lib.byteCells l ++ [.int .u8 (b.toNat : Int)] := by simp [Lib.byteCells]
theorem byteCells_app (l m : List UInt8) : Lib.byteCells (l ++ m) = Lib.byteCells l ++ Lib.byteCells m := by simp [Lib.byteCells]
theorem numsT_take {l : List Int} {k : Nat} {x : Int} (h : l[k]? = some x) : numsT (l.take (k + 1)) = numsT (l.take k) ++ num4 x := by
 rw [List.take_add_one, h]
 simp [numsT]
set_option maxRecDepth 100000 in
set_option maxHeartbeats 8000000 in
theorem keyOf2_any {w : World} {nv tv bv : Value} {D : Aut} {K : Nat} {Bk : List Int} (h : DAt w nv tv D) (hD : X6.Ok D K) (hK : K ≤ 1000000) (hb : RowAtI w bv Bk) (hbl : Bk.length = D.next.length) (hbr : ∀ x ∈ Bk, -1 ≤ x ∧ x < 2147483648) (hN : D.next.length ≤ 1000000) (a : Nat) (ha : a < D.next.length) :
  Calls Tryz.prog 72 #[.agg (dval D nv tv), bv, .int .i64 (a : Int)] w fun e w' => e = .returned (keyTV (keyT (X6.keyB D Bk a))) ∧ Below w.heap.size w w' := by
 obtain ⟨dc, hdc⟩ : ∃ dc, dval D nv tv = dc := ⟨_, rfl⟩
 have HD256 := hid (dcell_next h.len nv tv)
 have HD257 := hid (dcell_tags h.len nv tv)
 rw [hdc] at HD256 HD257 ⊢
 obtain ⟨wa, ea⟩ : ∃ wa, w.alloc (.cells dc 26) = wa := ⟨_, rfl⟩
 have hba : Below w.heap.size w wa := by rw [← ea]; exact (Below.refl _ _).alloc (Nat.le_refl _) _
 have hna : wa.heap[w.heap.size]? = some (.cells dc 26 (0, 0)) := by rw [← ea]; exact new_block _ _
 have hsa : wa.heap.size = w.heap.size + 1 := by rw [← ea]; simp
 have hda := h.below hba
 obtain ⟨bn, offn, ro, rc, nc, hno, hbn, cn, hrow⟩ := rowsAt_get hda.rows (rowOf_get ha)
 subst hno
 obtain ⟨t, ht⟩ : ∃ t, D.tags[a]? = some t := ⟨_, List.getElem?_eq_getElem (by rw [hD.tags]; exact ha)⟩
 obtain ⟨bt, offt, tc, hto, hbt, ct, ht64⟩ := tagsAt_get hda.tags ht
 subst hto
 have hbv := hb.below hba
 obtain ⟨bo, bc, hbo⟩ : ∃ bo bc, bv = .slice bo Bk.length bc := by
  obtain ⟨ro, rc, e, _⟩ := hb
  exact ⟨ro, rc, e⟩
 subst hbo
 obtain ⟨ba, hbka⟩ : ∃ ba, Bk[a]? = some ba := ⟨_, List.getElem?_eq_getElem (by rw [hbl]; exact ha)⟩
 obtain ⟨bb, offb, hbb, hbbl, cb⟩ := rowAt_get hbv hbka
 subst hbb
 have hrl := hD.rows a ha
 have c256 : wa.cell? ⟨w.heap.size, 256, none⟩ = some (.slice (some ⟨bn, offn, none⟩) D.next.length nc) := by rw [Lib.cell_of_heap hna]; exact HD256.out
 have c257 : wa.cell? ⟨w.heap.size, 257, none⟩ = some (.slice (some ⟨bt, offt, none⟩) D.tags.length tc) := by rw [Lib.cell_of_heap hna]; exact HD257.out
 obtain ⟨R, hR⟩ : ∃ R, X5.rowOf D a = R := ⟨_, rfl⟩
 have hKey : X6.keyB D Bk a = (t, ba, R.map fun n => if n < 0 then n else Bk.getD n.toNat (-1)) := by
  unfold X6.keyB
  rw [hR, List.getD_eq_getElem?_getD, ht, List.getD_eq_getElem?_getD, hbka]; rfl
 rw [hKey]
 obtain ⟨L, hL⟩ : ∃ L, (R.map fun n => if n < 0 then n else Bk.getD n.toNat (-1)) = L := ⟨_, rfl⟩
 rw [hL]
 have HL := hid hL
 clear hL
 have hrb := hD.ends a ha
 rw [hR] at hrow cn hrl hrb
 rw [hrl] at cn
 have h1 : (0 : Int) ≤ (a : Int) := by omega
 have h2 : (a : Int) < (D.next.length : Int) := by omega
 have h3 : (a : Int) < (D.tags.length : Int) := by have := hD.tags; omega
 have h4 : (a : Int) < (Bk.length : Int) := by omega
 have hw1 : IntKind.i64.wrap (4 * (K : Int)) = 4 * (K : Int) := by simp [IntKind.wrap, IntKind.signed, IntKind.bits]; omega
 have hw2 : IntKind.i64.wrap (12 + 4 * (K : Int)) = 12 + 4 * (K : Int) := by simp [IntKind.wrap, IntKind.signed, IntKind.bits]; omega
 have HBA := hid hba
 have HNA := hid hna
 have HROW := hid hrow
 have HBV := hid hbv
 have HBR := hid hbr
 have HRL := hid hrl
 have HRB := hid hrb
 have HBL := hid hbl
 have HT := hid ht64
 have HBa := hid (hbr _ (List.mem_of_getElem? hbka))
 have HTL := hid hD.tags
 have HSa := hid hsa
 have HC := hid (And.intro c256 (And.intro c257 (And.intro cn (And.intro ct cb))))
 have HLT := hid (And.intro hbn (And.intro hbt hbbl))
 clear h hD hb hba hna hda hrow hbv hbr hrl hrb hbl HD256 HD257 hdc hKey hsa ht hbka
 obtain ⟨j0, hj, hk0, hk1, hk2⟩ := info_parts info5
 have HJ := hid (And.intro hj (And.intro hk0 (And.intro hk1 hk2)))
 clear hj hk0 hk1 hk2
 go_enter Tryz.func72, Tryz.ntmps72
 go_wp2_with (at_make; refine wpList_make_own _ rfl (.const (.int .i64 0)) (.tmp 18) 99 rfl wa.heap.size 5 j0 (.int .u8 0) 1 Tryz.underlying99 HJ.out.1 HJ.out.2.1 HJ.out.2.2.1 .i64 .i64 (12 + 4 * (K : Int)) (12 + 4 * K) rfl rfl (by omega) (by rw [HJ.out.2.2.2]; omega) (by unfold maxLen; omega) (Nat.le_refl _) ?_)
 intro w2 hown2 hg2
 have hb2 : Below wa.heap.size wa w2 := (Below.refl _ _).grown hg2 (Nat.le_refl _) (by simp)
 have HO2 := hid hown2
 have HB2 := hid hb2
 clear hown2 hg2 hb2
 go_wp2_with fail
 go_loopw [7, 8] (fun t7 t8 wr => ∃ (k s : Nat) (o : Option Addr) (c : Nat), k ≤ 8 ∧ Hid (s = 8 * k) ∧ t8 = .int .i64 (s : Int) ∧ t7 = .slice o k c ∧ Hid (wr.ownsRow wa.heap.size 5 1 (.slice o k c) k (Lib.byteCells (numD k t))) ∧ Hid (Below wa.heap.size wa wr)) (fun _ t8 _ => 64 - (RowKit.intOf t8).toNat)
 case atStart => exact ⟨0, 0, _, _, by omega, hid rfl, rfl, rfl, HO2, HB2⟩
 case round =>
  obtain ⟨k, s, ko, kc, hk, HSK, rfl, rfl, HO, HB⟩ := hrel
  by_cases hlt : k < 8
  ·have g1 : (s : Int) < 64 := by have := HSK.out; omega
   have g2 : (0 : Int) ≤ (s : Int) := by omega
   have e256 := cell_bel HB.out (b := w.heap.size) (off := 257) (by have := HSa.out; omega) HC.out.2.1
   have et := cell_bel HB.out HLT.out.2.1 HC.out.2.2.2.1
   obtain ⟨tb, htb⟩ : ∃ tb : Int, (t : Int) / 2 ^ s % 256 = tb := ⟨_, rfl⟩
   have HTB := hid (show numD (k + 1) t = numD k t ++ [UInt8.ofNat (t / 256 ^ k % 256)] ∧ tb = ((UInt8.ofNat (t / 256 ^ k % 256)).toNat : Int) from ⟨numD_snoc k t, by rw [← htb, HSK.out]; exact shr_byte t k⟩)
   obtain ⟨w5, e5⟩ : ∃ w5, wr.alloc (.cells #[.int .u8 tb] 5) = w5 := ⟨_, rfl⟩
   have hb5 : Below wr.heap.size wr w5 := by rw [← e5]; exact (Below.refl _ _).alloc (Nat.le_refl _) _
   have HN5 := hid (show w5.heap[wr.heap.size]? = some (.cells #[.int .u8 tb] 5 (0, 0)) from by rw [← e5]; exact new_block _ _)
   have HO5 := hid (own_more HO.out hb5)
   have HB5 := hid (HB.out.trans (hb5.mono HB.out.size))
   have hd5 := Nat.le_trans HB.out.size hb5.size
   clear hb5
   go_wp2_with (at_builtin; refine wpList_push1 rfl (.tmp 24) (.tmp 33) 99 5 rfl (.int .u8 0) 1 Tryz.underlying99 info5 rfl (by decide) wa.heap.size (.slice ko k kc) k (Lib.byteCells (numD k t)) rfl HO5.out wr.heap.size rfl (.int .u8 tb) HN5.out rfl (by omega) hd5 ?_)
   intro v6 w6 hown6 hg6 hat6
   obtain ⟨so6, sc6, rfl⟩ := own_shape hown6
   have HO6 := hid hown6
   have HB6 := hid (HB5.out.grown hg6 hd5 (fun q hq => (owns_lt HO5.out q hq).1))
   clear hown6 hg6 hat6 e5 htb
   go_wp2_with fail
   refine ⟨⟨k + 1, s + 8, so6, sc6, by omega, hid (by have := HSK.out; omega), rfl, rfl, hid ?_, HB6⟩, ?_⟩
   ·have h9 := HO6.out
    rw [HTB.out.1, byteCells_snoc, ← HTB.out.2]
    exact h9
   ·show 64 - ((s : Int) + 8).toNat < 64 - ((s : Int)).toNat
    omega
  ·obtain rfl : k = 8 := by omega
   have g1 : ¬ (s : Int) < 64 := by have := HSK.out; omega
   have cb' := cell_bel HB.out HLT.out.2.2 HC.out.2.2.2.2
   have hd := HB.out.size
   have KA := hid (append_number ba HBa.out.1 HBa.out.2 HO.out hd (by omega))
   clear hd
   go_wp2_with fail
   refine KA.out.mono ?_
   rintro e w5 ⟨v5, rfl, hown5, hb5⟩
   obtain ⟨so5, sc5, rfl⟩ := own_shape hown5
   have hb15 : Below wa.heap.size wa w5 := HB.out.trans hb5
   have c256' := cell_bel hb15 (b := w.heap.size) (off := 256) (by have := HSa.out; omega) HC.out.1
   have cn' := cell_bel hb15 HLT.out.1 HC.out.2.2.1
   obtain ⟨n5, hn5⟩ : ∃ n5, 8 + 4 = n5 := ⟨_, rfl⟩
   rw [hn5]
   have HN5 := hid (show n5 = 12 + 4 * 0 from by omega)
   have HO5 := hid (show w5.ownsRow wa.heap.size 5 1 (.slice so5 n5 sc5) n5 (Lib.byteCells (numD 8 t ++ num4 ba ++ numsT (L.take 0))) from by
    have h9 := hown5
    rw [hn5] at h9
    simpa [byteCells_app, numsT] using h9)
   have HB15 := hid hb15
   clear hown5 hb5 hb15 KA hn5 cb'
   go_wp2_with fail
   clear c256' cn'
   go_loopw [7, 47] (fun t7 t47 wr => ∃ (j n : Nat) (o : Option Addr) (c : Nat), j ≤ K ∧ Hid (n = 12 + 4 * j) ∧ t47 = .int .i64 (j : Int) ∧ t7 = .slice o n c ∧ Hid (wr.ownsRow wa.heap.size 5 1 (.slice o n c) n (Lib.byteCells (numD 8 t ++ num4 ba ++ numsT (L.take j)))) ∧ Hid (Below wa.heap.size wa wr)) (fun _ t47 _ => K - (RowKit.intOf t47).toNat)
   case atStart => exact ⟨0, n5, so5, sc5, Nat.zero_le _, HN5, rfl, rfl, HO5, HB15⟩
   case round =>
    clear HO HB HN5 HO5 HB15
    obtain ⟨j, n, jo, jc, hj, HN, rfl, rfl, HO, HB⟩ := hrel
    by_cases hlt2 : j < K
    ·have k1 : (j : Int) < (K : Int) := by omega
     have k2 : (0 : Int) ≤ (j : Int) := by omega
     obtain ⟨z, hz⟩ : ∃ z, R[j]? = some z := ⟨_, List.getElem?_eq_getElem (by rw [HRL.out]; exact hlt2)⟩
     obtain ⟨br, offr, hro, hbr, cr⟩ := rowAt_get HROW.out hz
     subst hro
     have hzb := HRB.out z (List.mem_of_getElem? hz)
     have cr' := cell_bel HB.out hbr cr
     have hLj : L[j]? = some (if z < 0 then z else Bk.getD z.toNat (-1)) := by rw [← HL.out, List.getElem?_map, hz]; rfl
     have hd := HB.out.size
     by_cases hz0 : z < 0
     ·have k3 : decide (0 ≤ z) = false := by simpa using hz0
      rw [if_pos hz0] at hLj
      have KA := hid (append_number z hzb.1 (by omega) HO.out hd (by have := HN.out; omega))
      have HT := hid (numsT_take hLj)
      clear hz hLj hzb hd cr
      go_wp2_with fail
      refine KA.out.mono ?_
      rintro e w6 ⟨v6, rfl, hown6, hb6⟩
      obtain ⟨so6, sc6, rfl⟩ := own_shape hown6
      obtain ⟨n6, hn6⟩ : ∃ n6, n + 4 = n6 := ⟨_, rfl⟩
      rw [hn6] at hown6 ⊢
      have HO6 := hid hown6
      have HB6 := hid (HB.out.trans hb6)
      have HN6 := hid hn6
      clear hown6 hb6 hn6 KA
      go_wp2_with fail
      refine ⟨⟨j + 1, n6, so6, sc6, by omega, hid (by have := HN.out; have := HN6.out; omega), rfl, rfl, hid ?_, HB6⟩, ?_⟩
      ·have h9 := HO6.out
       rw [HT.out, ← List.append_assoc, byteCells_app (_ ++ _) (num4 z)]
       exact h9
      ·show K - ((j : Int) + 1).toNat < K - ((j : Int)).toNat
       omega
     ·obtain ⟨m, rfl⟩ : ∃ m : Nat, z = (m : Int) := ⟨z.toNat, by omega⟩
      have k3 : decide ((0 : Int) ≤ (m : Int)) = true := by simp
      rw [if_neg hz0, Int.toNat_natCast] at hLj
      obtain ⟨bm, hbm⟩ : ∃ bm, Bk[m]? = some bm := ⟨_, List.getElem?_eq_getElem (by have := HBL.out; omega)⟩
      obtain ⟨bb2, offb2, e2, hbbl2, cb2⟩ := rowAt_get HBV.out hbm
      injection e2 with e2
      injection e2 with e2 e3
      subst e2 e3
      have cb3 := cell_bel HB.out hbbl2 cb2
      have hLj2 : L[j]? = some bm := by rw [hLj, List.getD_eq_getElem?_getD, hbm]; rfl
      have hmb := HBR.out bm (List.mem_of_getElem? hbm)
      have KA := hid (append_number bm hmb.1 hmb.2 HO.out hd (by have := HN.out; omega))
      have HT := hid (numsT_take hLj2)
      have k4 : (0 : Int) ≤ (m : Int) := by omega
      have k5 : (m : Int) < (Bk.length : Int) := by have := HBL.out; omega
      clear hz hLj hLj2 hzb hd cr hbm cb2 hmb hz0
      go_wp2_with fail
      refine KA.out.mono ?_
      rintro e w6 ⟨v6, rfl, hown6, hb6⟩
      obtain ⟨so6, sc6, rfl⟩ := own_shape hown6
      obtain ⟨n6, hn6⟩ : ∃ n6, n + 4 = n6 := ⟨_, rfl⟩
      rw [hn6] at hown6 ⊢
      have HO6 := hid hown6
      have HB6 := hid (HB.out.trans hb6)
      have HN6 := hid hn6
      clear hown6 hb6 hn6 KA
      go_wp2_with fail
      refine ⟨⟨j + 1, n6, so6, sc6, by omega, hid (by have := HN.out; have := HN6.out; omega), rfl, rfl, hid ?_, HB6⟩, ?_⟩
      ·have h9 := HO6.out
       rw [HT.out, ← List.append_assoc, byteCells_app (_ ++ _) (num4 bm)]
       exact h9
      ·show K - ((j : Int) + 1).toNat < K - ((j : Int)).toNat
       omega
    ·have hjK : j = K := by omega
     have k1 : ¬ (j : Int) < (K : Int) := by omega
     have hLL : L.length = K := by rw [← HL.out, List.length_map]; exact HRL.out
     have hTk : L.take j = L := List.take_of_length_le (by omega)
     have hlen : (numD 8 t ++ num4 ba ++ numsT L).length = n := by
      have h9 := keyT_len (t, ba, L)
      have h8 := HN.out
      unfold keyT at h9
      simp only at h9
      omega
     have hown := HO.out
     rw [hTk] at hown
     have hcv := conv49 wr wa.heap.size (.slice jo n jc) (numD 8 t ++ num4 ba ++ numsT L) (by rw [hlen]; exact hown)
     have HX := hid (show (Value.string ⟨(numD 8 t ++ num4 ba ++ numsT L).toArray⟩) = keyTV (keyT (t, ba, L)) from rfl)
     obtain ⟨KV, hKV⟩ : ∃ KV, (⟨(numD 8 t ++ num4 ba ++ numsT L).toArray⟩ : ByteArray) = KV := ⟨_, rfl⟩
     rw [hKV] at hcv HX
     have HBB := hid (HBA.out.trans (HB.out.mono (by have := HSa.out; omega)))
     clear hown hTk hlen hLL hKV
     go_wp2_with fail
     go_ret
     refine ⟨?_, HBB.out⟩
     rw [← HX.out]
     rfl
end Go.Proofs.YtochckefnjobhaaGreatDoor
