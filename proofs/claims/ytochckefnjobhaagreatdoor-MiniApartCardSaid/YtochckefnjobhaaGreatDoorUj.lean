/- Automata in memory; dfa.Go. -/
import Derived.Deep.QuietTactic
import Derived.BigQuiet
import Derived.Test.YtochckefnjobhaaGreatDoorUh
namespace Go.Proofs.X5
set_option linter.unusedVariables false
structure Aut where
 cls : List Int
 next : List (List Int)
 tags : List Nat
def rowOf (D : Aut) (i : Nat) : List Int := D.next.getD i []
def behX (D : Aut) (at_ : Int) (b : Nat) : Int :=
 if at_ < 0 ∨ (D.next.length : Int) ≤ at_ then -1 else
  if D.cls.getD b 0 < 0 ∨ ((rowOf D at_.toNat).length : Int) ≤ D.cls.getD b 0 then -1 else
   if (rowOf D at_.toNat).getD (D.cls.getD b 0).toNat 0 < 0 ∨ (D.next.length : Int) ≤ (rowOf D at_.toNat).getD (D.cls.getD b 0).toNat 0 then -1 else (rowOf D at_.toNat).getD (D.cls.getD b 0).toNat 0
def goX (D : Aut) : List UInt8 → Int → Int
 | [], a => a
 | b :: s, a => goX D s (behX D a b.toNat)
theorem goX_app (D : Aut) : ∀ (s t : List UInt8) (a : Int), goX D (s ++ t) a = goX D t (goX D s a)
 | [], t, a => rfl
 | b :: s, t, a => by rw [List.cons_append, goX, goX, goX_app D s t]
def runX (D : Aut) (s : List UInt8) : Nat :=
 if goX D s 0 < 0 ∨ (D.next.length : Int) ≤ goX D s 0 ∨ (D.tags.length : Int) ≤ goX D s 0 then 0 else D.tags.getD (goX D s 0).toNat 0
end Go.Proofs.X5
namespace Go.Proofs.YtochckefnjobhaaGreatDoor
open Go Go.RowKit Go.Lib
open X5 (Aut)
set_option linter.unusedVariables false
set_option linter.unusedSimpArgs false
abbrev ivs (l : List Int) : Array Value := (l.map (Value.int .i64)).toArray
def RowAtI (w : World) (v : Value) (l : List Int) : Prop := ∃ ro rc, v = .slice ro l.length rc ∧ ∀ j (hj : j < l.length), ∃ b off, ro = some ⟨b, off, none⟩ ∧ b < w.heap.size ∧ w.cell? ⟨b, off + j, none⟩ = some (.int .i64 l[j])
def RowsAt (w : World) (v : Value) (l : List (List Int)) : Prop := ∃ ro rc, v = .slice ro l.length rc ∧ ∀ i (hi : i < l.length), ∃ b off rv, ro = some ⟨b, off, none⟩ ∧ b < w.heap.size ∧ w.cell? ⟨b, off + i, none⟩ = some rv ∧ RowAtI w rv l[i]
def TagsAt (w : World) (v : Value) (l : List Nat) : Prop := ∃ ro rc, v = .slice ro l.length rc ∧ ∀ i (hi : i < l.length), ∃ b off, ro = some ⟨b, off, none⟩ ∧ b < w.heap.size ∧ w.cell? ⟨b, off + i, none⟩ = some (.int .u64 (l[i] : Int)) ∧ l[i] < 18446744073709551616
structure DAt (w : World) (nv tv : Value) (D : Aut) : Prop where
 len : D.cls.length = 256
 rows : RowsAt w nv D.next
 tags : TagsAt w tv D.tags
 few : D.next.length ≤ maxLen ∧ D.tags.length ≤ maxLen
 short : ∀ l ∈ D.next, l.length ≤ maxLen
abbrev dval (D : Aut) (nv tv : Value) : Array Value := ivs D.cls ++ #[nv, tv]
theorem RowAtI.below {w w' : World} {v : Value} {l : List Int} (h : RowAtI w v l) (hb : Below w.heap.size w w') : RowAtI w' v l := by
 obtain ⟨ro, rc, e, h1⟩ := h
 exact ⟨ro, rc, e, fun j hj => by
  obtain ⟨b, off, e1, h2, h3⟩ := h1 j hj
  exact ⟨b, off, e1, Nat.lt_of_lt_of_le h2 hb.size, (World.cell?_of_block (a := ⟨b, off + j, none⟩) (hb.block b h2)).trans h3⟩⟩
theorem DAt.below {w w' : World} {nv tv : Value} {D : Aut} (h : DAt w nv tv D) (hb : Below w.heap.size w w') : DAt w' nv tv D := by
 refine ⟨h.len, ?_, ?_, h.few, h.short⟩
 ·obtain ⟨ro, rc, e, h1⟩ := h.rows
  exact ⟨ro, rc, e, fun i hi => by
   obtain ⟨b, off, rv, e1, h2, h3, h4⟩ := h1 i hi
   exact ⟨b, off, rv, e1, Nat.lt_of_lt_of_le h2 hb.size, (World.cell?_of_block (a := ⟨b, off + i, none⟩) (hb.block b h2)).trans h3, h4.below hb⟩⟩
 ·obtain ⟨ro, rc, e, h1⟩ := h.tags
  exact ⟨ro, rc, e, fun i hi => by
   obtain ⟨b, off, e1, h2, h3, h4⟩ := h1 i hi
   exact ⟨b, off, e1, Nat.lt_of_lt_of_le h2 hb.size, (World.cell?_of_block (a := ⟨b, off + i, none⟩) (hb.block b h2)).trans h3, h4⟩⟩
theorem dcell_cls {D : Aut} (hl : D.cls.length = 256) (nv tv : Value) {b : Nat} (hb : b < 256) : (dval D nv tv)[b]? = some (.int .i64 (D.cls.getD b 0)) := by
 unfold dval ivs
 rw [Array.getElem?_append_left (by simp; omega)]
 rw [List.getElem?_toArray, List.getElem?_map, List.getElem?_eq_getElem (by omega), List.getD_eq_getElem?_getD, List.getElem?_eq_getElem (by omega)]
 rfl
theorem dcell_next {D : Aut} (hl : D.cls.length = 256) (nv tv : Value) : (dval D nv tv)[256]? = some nv := by
 unfold dval ivs
 have hs : (List.map (Value.int .i64) D.cls).toArray.size = 256 := by simp [hl]
 rw [Array.getElem?_append_right (by omega), hs]; rfl
theorem dcell_tags {D : Aut} (hl : D.cls.length = 256) (nv tv : Value) : (dval D nv tv)[257]? = some tv := by
 unfold dval ivs
 have hs : (List.map (Value.int .i64) D.cls).toArray.size = 256 := by simp [hl]
 rw [Array.getElem?_append_right (by omega), hs]; rfl
set_option maxRecDepth 100000 in
set_option maxHeartbeats 4000000 in
theorem behind_any {w : World} {nv tv : Value} {D : Aut} (h : DAt w nv tv D) (db : Nat) (hd : w.heap[db]? = some (.cells (dval D nv tv) 26 (0, 0))) (at_ : Int) (b : Nat) (hb : b < 256) :
  Calls Tryz.prog 56 #[.pointer (some ⟨db, 0, none⟩), .int .i64 at_, .int .u8 (b : Int)] w fun e w' => e = .returned (.int .i64 (X5.behX D at_ b)) ∧ Below w.heap.size w w' := by
 obtain ⟨no, nc, rfl, hrows⟩ := h.rows
 have cn : w.cell? ⟨db, 256, none⟩ = some (.slice no D.next.length nc) := by rw [Lib.cell_of_heap hd, dcell_next h.len]
 have cc : w.cell? ⟨db, b, none⟩ = some (.int .i64 (D.cls.getD b 0)) := by rw [Lib.cell_of_heap hd, dcell_cls h.len _ _ hb]
 have hfew := h.few.1
 have HSh := hid h.short
 unfold maxLen at hfew
 have HROW := hid hrows
 clear h hd hrows
 by_cases h0 : at_ < 0
 ·have e : X5.behX D at_ b = -1 := by unfold X5.behX; rw [if_pos (.inl h0)]
  rw [e]
  clear e
  go_enter Tryz.func56, Tryz.ntmps56
  go_wp2_with fail
  go_ret
  exact ⟨rfl, Below.refl _ _⟩
 by_cases h1 : (D.next.length : Int) ≤ at_
 ·have e : X5.behX D at_ b = -1 := by unfold X5.behX; rw [if_pos (.inr h1)]
  rw [e]
  clear e
  go_enter Tryz.func56, Tryz.ntmps56
  go_wp2_with fail
  go_ret
  exact ⟨rfl, Below.refl _ _⟩
 obtain ⟨i, rfl⟩ : ∃ i : Nat, at_ = (i : Int) := ⟨at_.toNat, by omega⟩
 have hi : i < D.next.length := by omega
 obtain ⟨bn, offn, rv, rfl, hbn, hcn, ⟨ro, rc, rfl, hrow⟩⟩ := HROW.out i hi
 have hlr := HSh.out _ (List.getElem_mem hi)
 unfold maxLen at hlr
 have hX : X5.behX D (i : Int) b = if D.cls.getD b 0 < 0 ∨ ((D.next[i]).length : Int) ≤ D.cls.getD b 0 then -1 else
   if (D.next[i]).getD (D.cls.getD b 0).toNat 0 < 0 ∨ (D.next.length : Int) ≤ (D.next[i]).getD (D.cls.getD b 0).toNat 0 then -1 else (D.next[i]).getD (D.cls.getD b 0).toNat 0 := by
  have e : X5.rowOf D i = D.next[i] := by unfold X5.rowOf; rw [List.getD_eq_getElem?_getD, List.getElem?_eq_getElem hi]; rfl
  unfold X5.behX
  rw [if_neg (by omega), Int.toNat_natCast, e]
 rw [hX]
 clear hX
 have HR := hid hrow
 clear hrow
 generalize D.next[i] = row at *
 generalize D.cls.getD b 0 = c at *
 have h2 : (0 : Int) ≤ (i : Int) := by omega
 have h3 : (i : Int) < (D.next.length : Int) := by omega
 by_cases k0 : c < 0
 ·rw [if_pos (.inl k0)]
  have g0 : decide (c < 0) = true := by simpa using k0
  go_enter Tryz.func56, Tryz.ntmps56
  go_wp2_with fail
  go_quiet (fail)
  go_wp2_with fail
  go_quiet (fail)
  go_wp2_with fail
  go_ret
  exact ⟨rfl, below_drewN (below_drewN (Below.refl _ _) _) _⟩
 have n0 : decide (c < 0) = false := by simpa using k0
 by_cases k1 : (row.length : Int) ≤ c
 ·rw [if_pos (.inr k1)]
  have n1 : decide ((row.length : Int) ≤ c) = true := by simpa using k1
  go_enter Tryz.func56, Tryz.ntmps56
  go_wp2_with fail
  go_quiet (fail)
  go_wp2_with fail
  go_quiet (fail)
  go_wp2_with fail
  go_ret
  exact ⟨rfl, below_drewN (below_drewN (Below.refl _ _) _) _⟩
 have n1 : decide ((row.length : Int) ≤ c) = false := by simpa using k1
 rw [if_neg (by omega)]
 obtain ⟨j, rfl⟩ : ∃ j : Nat, c = (j : Int) := ⟨c.toNat, by omega⟩
 have hj : j < row.length := by omega
 obtain ⟨br, offr, rfl, hbr, hcr⟩ := HR.out j hj
 have ez : row.getD (j : Int).toNat 0 = row[j] := by rw [Int.toNat_natCast, List.getD_eq_getElem?_getD, List.getElem?_eq_getElem hj]; rfl
 rw [ez]
 clear ez
 generalize row[j] = z at *
 have h4 : (0 : Int) ≤ (j : Int) := by omega
 have h5 : (j : Int) < (row.length : Int) := by omega
 have n2 : decide ((row.length : Int) ≤ (j : Int)) = false := by simp; omega
 have n3 : decide ((j : Int) < 0) = false := by first | (simp; done) | (simp; omega)
 have n4 : decide (row.length ≤ j) = false := by simp; omega
 by_cases k2 : z < 0
 ·rw [if_pos (.inl k2)]
  have m0 : decide (z < 0) = true := by simpa using k2
  go_enter Tryz.func56, Tryz.ntmps56
  go_wp2_with fail
  go_quiet (fail)
  go_wp2_with fail
  go_quiet (fail)
  go_wp2_with fail
  go_ret
  exact ⟨rfl, below_drewN (below_drewN (Below.refl _ _) _) _⟩
 have m0 : decide (z < 0) = false := by simpa using k2
 by_cases k3 : (D.next.length : Int) ≤ z
 ·rw [if_pos (.inr k3)]
  have m1 : decide ((D.next.length : Int) ≤ z) = true := by simpa using k3
  go_enter Tryz.func56, Tryz.ntmps56
  go_wp2_with fail
  go_quiet (fail)
  go_wp2_with fail
  go_quiet (fail)
  go_wp2_with fail
  go_ret
  exact ⟨rfl, below_drewN (below_drewN (Below.refl _ _) _) _⟩
 have m1 : decide ((D.next.length : Int) ≤ z) = false := by simpa using k3
 rw [if_neg (by omega)]
 go_enter Tryz.func56, Tryz.ntmps56
 go_wp2_with fail
 go_quiet (fail)
 go_wp2_with fail
 go_quiet (fail)
 go_wp2_with fail
 go_ret
 exact ⟨rfl, below_drewN (Below.refl _ _) _⟩
theorem box30 {w wa : World} {D : Aut} {nv tv : Value} (h : DAt w nv tv D) (e : w.alloc (.cells (dval D nv tv) 26) = wa) : Below w.heap.size w wa ∧ wa.heap[w.heap.size]? = some (.cells (dval D nv tv) 26 (0, 0)) ∧ DAt wa nv tv D ∧ w.heap.size < wa.heap.size := by
 have hb : Below w.heap.size w wa := by rw [← e]; exact (Below.refl _ _).alloc (Nat.le_refl _) _
 exact ⟨hb, by rw [← e]; exact new_block _ _, h.below hb, by rw [← e]; simp⟩
set_option maxRecDepth 100000 in
set_option maxHeartbeats 4000000 in
theorem go_any {w : World} {nv tv : Value} {D : Aut} (h : DAt w nv tv D) (at_ : Int) (b : Nat) (hb : b < 256) :
  Calls Tryz.prog 90 #[.agg (dval D nv tv), .int .i64 at_, .int .u8 (b : Int)] w fun e w' => e = .returned (.int .i64 (X5.behX D at_ b)) ∧ Below w.heap.size w w' := by
 obtain ⟨wa, ea⟩ : ∃ wa, w.alloc (.cells (dval D nv tv) 26) = wa := ⟨_, rfl⟩
 obtain ⟨hba, hna, hda, hsa⟩ := box30 h ea
 have KB := hid (behind_any hda w.heap.size hna at_ b hb)
 have HBA := hid hba
 clear h hba hna hda
 generalize hv : dval D nv tv = V at *
 clear hv
 go_enter Tryz.func90, Tryz.ntmps90
 go_wp2_with fail
 refine KB.out.mono ?_
 rintro e w2 ⟨rfl, hb2⟩
 have HB2 := hid (HBA.out.trans (hb2.mono (Nat.le_of_lt hsa)))
 clear hb2
 go_wp2_with fail
 go_ret
 exact ⟨rfl, HB2.out⟩
set_option maxRecDepth 100000 in
set_option maxHeartbeats 4000000 in
theorem run_dfa {w : World} {nv tv : Value} {D : Aut} (h : DAt w nv tv D) (s : ByteArray) (hs : s.size < 9223372036854775808) :
  Calls Tryz.prog 24 #[.agg (dval D nv tv), .string s] w fun e w' => e = .returned (.int .u64 (X5.runX D (LL s) : Int)) ∧ Below w.heap.size w w' := by
 obtain ⟨wa, ea⟩ : ∃ wa, w.alloc (.cells (dval D nv tv) 26) = wa := ⟨_, rfl⟩
 obtain ⟨hba, hna, hda, hsa⟩ := box30 h ea
 have HBA := hid hba
 have HNA := hid hna
 have HDA := hid hda
 obtain ⟨no, nc, rfl, _⟩ := h.rows
 obtain ⟨to, tc, rfl, htags⟩ := hda.tags
 have HTG := hid htags
 have HLen := hid h.len
 have hf1 := h.few.1
 have hf2 := h.few.2
 unfold maxLen at hf1 hf2
 obtain ⟨V, hV⟩ : ∃ V, dval D (.slice no D.next.length nc) (.slice to D.tags.length tc) = V := ⟨_, rfl⟩
 rw [hV] at ea
 have HV := hid hV
 rw [hV]
 clear h hba hna hda htags hV
 go_enter Tryz.func24, Tryz.ntmps24
 go_wp2_with fail
 clear ea
 go_loopw [5, 6, 9] (fun t5 t6 t9 wr => ∃ k : Nat, k ≤ s.size ∧ t9 = .int .i64 (k : Int) ∧ (∃ z : Int, t5 = .int .i64 z ∧ Hid (z = X5.goX D ((LL s).take k) 0)) ∧ Below wa.heap.size wa wr) (fun _ _ t9 _ => s.size - (RowKit.intOf t9).toNat)
 case atStart => exact ⟨0, Nat.zero_le _, rfl, ⟨0, rfl, hid (by rw [List.take_zero]; rfl)⟩, Below.refl _ _⟩
 case round =>
  obtain ⟨k, hk, rfl, ⟨z, rfl, HZ⟩, hB⟩ := hrel
  have HB := hid hB
  have hszr := hB.size
  have hnr := (hB.block _ hsa).trans HNA.out
  have HDr := hid (HDA.out.below hB)
  by_cases hlt : k < s.size
  ·have h1 : (k : Int) < (s.size : Int) := by omega
   have h2 : (0 : Int) ≤ (k : Int) := by omega
   have KB := hid (behind_any HDr.out w.heap.size hnr z (s[k]'hlt).toNat (s[k]'hlt).toNat_lt)
   have HZ2 := hid (show X5.behX D z (s[k]'hlt).toNat = X5.goX D ((LL s).take (k + 1)) 0 from by rw [ll_next hlt, X5.goX_app, ← HZ.out]; rfl)
   clear hB hnr
   generalize X5.behX D z (s[k]'hlt).toNat = z2 at *
   go_wp2_with fail
   refine KB.out.mono ?_
   rintro e w2 ⟨rfl, hb2⟩
   have HB2 := hid (HB.out.trans (hb2.mono hszr))
   clear hb2
   go_wp2_with fail
   refine ⟨⟨k + 1, by omega, rfl, ⟨z2, rfl, HZ2⟩, HB2.out⟩, ?_⟩
   show s.size - ((k : Int) + 1).toNat < s.size - ((k : Int)).toNat
   omega
  ·have h1 : ¬ (k : Int) < (s.size : Int) := by omega
   obtain rfl : k = s.size := by omega
   have htk : (LL s).take s.size = LL s := List.take_of_length_le (by rw [Array.length_toList]; exact Nat.le_refl _)
   rw [htk] at HZ
   have hX : X5.runX D (LL s) = if z < 0 ∨ (D.next.length : Int) ≤ z ∨ (D.tags.length : Int) ≤ z then 0 else D.tags.getD z.toNat 0 := by
    unfold X5.runX
    rw [← HZ.out]
   have HX := hid hX
   have cn : wr.cell? ⟨w.heap.size, 256, none⟩ = some (.slice no D.next.length nc) := by rw [Lib.cell_of_heap hnr, dcell_next HLen.out]
   have ct : wr.cell? ⟨w.heap.size, 257, none⟩ = some (.slice to D.tags.length tc) := by rw [Lib.cell_of_heap hnr, dcell_tags HLen.out]
   have HEnd := hid (HBA.out.trans (HB.out.mono (Nat.le_of_lt hsa)))
   clear htk hX hB hnr
   by_cases k0 : z < 0
   ·go_wp2_with fail
    go_ret
    exact ⟨by rw [HX.out, if_pos (.inl k0)]; rfl, HEnd.out⟩
   by_cases k1 : (D.next.length : Int) ≤ z
   ·go_wp2_with fail
    go_ret
    exact ⟨by rw [HX.out, if_pos (.inr (.inl k1))]; rfl, HEnd.out⟩
   by_cases k2 : (D.tags.length : Int) ≤ z
   ·go_wp2_with fail
    go_ret
    exact ⟨by rw [HX.out, if_pos (.inr (.inr k2))]; rfl, HEnd.out⟩
   have HX2 := hid (show X5.runX D (LL s) = D.tags.getD z.toNat 0 from by rw [HX.out, if_neg (by omega)])
   obtain ⟨i, rfl⟩ : ∃ i : Nat, z = (i : Int) := ⟨z.toNat, by omega⟩
   have hi : i < D.tags.length := by omega
   obtain ⟨bt, offt, rfl, hbt, hct, _⟩ := HTG.out i hi
   have hct2 := (World.cell?_of_block (a := ⟨bt, offt + i, none⟩) (HB.out.block bt hbt)).trans hct
   have ez : D.tags.getD (i : Int).toNat 0 = D.tags[i] := by rw [Int.toNat_natCast, List.getD_eq_getElem?_getD, List.getElem?_eq_getElem hi]; rfl
   rw [ez] at HX2
   have h5 : (0 : Int) ≤ (i : Int) := by omega
   have h6 : (i : Int) < (D.tags.length : Int) := by omega
   clear ez hct
   generalize D.tags[i] = q at *
   go_wp2_with fail
   go_ret
   exact ⟨by rw [HX2.out]; rfl, HEnd.out⟩
end Go.Proofs.YtochckefnjobhaaGreatDoor
namespace Go.Proofs.X5
open Go Go.Proofs.X3
open X3 (RX Pl)
set_option linter.unusedVariables false
mutual
def leafR (Q : RX → Prop) : RX → Prop
 | .empty => True
 | .bytes x y z u => Q (.bytes x y z u)
 | .cat l => leafL Q l
 | .alt l => leafL Q l
 | .star r => leafR Q r
def leafL (Q : RX → Prop) : List RX → Prop
 | [] => True
 | r :: l => leafR Q r ∧ leafL Q l
end
def leafP (Q : RX → Prop) (P : List Pl) : Prop := ∀ pl ∈ P, Q pl.b
theorem leafP.app {Q : RX → Prop} {P : List Pl} (h : leafP Q P) {pl : Pl} (hb : Q pl.b) : leafP Q (P ++ [pl]) := fun x hx => by
 rcases List.mem_append.1 hx with h1 | h1
 ·exact h x h1
 ·simp at h1; subst h1; exact hb
theorem leafP.mod {Q : RX → Prop} {P : List Pl} (h : leafP Q P) (a : Nat) (f : Pl → Pl) (hf : ∀ pl, (f pl).b = pl.b) : leafP Q (P.modify a f) := fun x hx => by
 obtain ⟨k, hk⟩ := List.mem_iff_getElem?.1 hx
 rw [List.getElem?_modify] at hk
 cases e : P[k]? with
 | none => rw [e] at hk; simp at hk
 | some pl =>
  rw [e] at hk
  have hp := h pl (List.mem_iff_getElem?.2 ⟨k, e⟩)
  simp at hk
  subst hk
  split
  ·rw [hf]; exact hp
  ·exact hp
mutual
theorem lay_leaf {Q : RX → Prop} (h0 : Q .empty) : ∀ (r : RX) (b : Nat) (P : List Pl), leafR Q r → leafP Q P → leafP Q (X3.layX r b P).2
 | .empty, b, P, h, hP => hP
 | .bytes x y z u, b, P, h, hP => hP.app h
 | .cat l, b, P, h, hP => layCat_leaf h0 l b P h hP
 | .alt l, b, P, h, hP => layAlt_leaf h0 l P.length b (P ++ [X3.none_]) h (hP.app h0)
 | .star r, b, P, h, hP => (lay_leaf h0 r P.length (P ++ [X3.none_]) h (hP.app h0)).mod _ _ (fun _ => rfl)
theorem layCat_leaf {Q : RX → Prop} (h0 : Q .empty) : ∀ (l : List RX) (b : Nat) (P : List Pl), leafL Q l → leafP Q P → leafP Q (X3.layCat l b P).2
 | [], b, P, h, hP => hP
 | r :: l, b, P, h, hP => lay_leaf h0 r _ _ h.1 (layCat_leaf h0 l b P h.2 hP)
theorem layAlt_leaf {Q : RX → Prop} (h0 : Q .empty) : ∀ (l : List RX) (a b : Nat) (P : List Pl), leafL Q l → leafP Q P → leafP Q (X3.layAlt l a b P)
 | [], a, b, P, h, hP => hP
 | r :: l, a, b, P, h, hP => layAlt_leaf h0 l a b _ h.2 ((lay_leaf h0 r b P h.1 hP).mod _ _ (fun _ => rfl))
end
theorem mk_leaf {Q : RX → Prop} (h0 : Q .empty) : ∀ (l : List RX) (i : Nat) (P : List Pl) (TS : List Nat), leafL Q l → leafP Q P → leafP Q (X4.mk l i P TS).2.1
 | [], i, P, TS, h, hP => hP
 | r :: l, i, P, TS, h, hP => mk_leaf h0 l (i + 1) _ _ h.2 (lay_leaf h0 r _ _ h.1 (hP.app h0))
def Inv (b b' : Nat) (st : St) : Prop := st.1.getD b 0 = st.1.getD b' 0 → ∀ q ∈ st.2, hasX (.bytes q.1 q.2.1 q.2.2.1 q.2.2.2) b = hasX (.bytes q.1 q.2.1 q.2.2.1 q.2.2.2) b'
abbrev Alike (b b' : Nat) (r : RX) : Prop := hasX r b = hasX r b'
theorem split_same {c : List Nat} {h : Nat → Bool} (hc : c.length = 256) {b b' : Nat} (hb : b < 256) (hb' : b' < 256) : (splitX c h).getD b 0 = (splitX c h).getD b' 0 ↔ (c.getD b 0 = c.getD b' 0 ∧ h b = h b') := by
 rw [split_at hc hb, split_at hc hb', num_eq c h hb hb']
 unfold keyAt
 rw [Prod.mk.injEq]
theorem step_alike {b b' : Nat} (hb : b < 256) (hb' : b' < 256) {x y z u : Nat} {st : St} (hg : Good st) (hi : Inv b b' st) :
  Inv b b' (step (.bytes x y z u) st) ∧ ((step (.bytes x y z u) st).1.getD b 0 = (step (.bytes x y z u) st).1.getD b' 0 → st.1.getD b 0 = st.1.getD b' 0 ∧ Alike b b' (.bytes x y z u)) := by
 by_cases hm : (x, y, z, u) ∈ st.2
 ·rw [step_in rfl hm]
  exact ⟨hi, fun h => ⟨h, hi h _ hm⟩⟩
 ·rw [step_out rfl hm]
  have hs := split_same (h := fun b => hasX (.bytes x y z u) b) hg.1 hb hb'
  generalize splitX st.1 (fun b => hasX (.bytes x y z u) b) = d at *
  refine ⟨fun h q hq => ?_, fun h => hs.1 h⟩
  rcases List.mem_append.1 hq with hq | hq
  ·exact hi (hs.1 h).1 q hq
  ·simp at hq; subst hq; exact (hs.1 h).2
mutual
theorem spX_alike {b b' : Nat} (hb : b < 256) (hb' : b' < 256) : ∀ (r : RX) {st : St}, Good st → Inv b b' st → Inv b b' (spX r st) ∧ ((spX r st).1.getD b 0 = (spX r st).1.getD b' 0 → st.1.getD b 0 = st.1.getD b' 0 ∧ leafR (Alike b b') r)
 | .bytes x y z u, st, hg, hi => step_alike hb hb' hg hi
 | .cat l, st, hg, hi => spL_alike hb hb' l hg hi
 | .alt l, st, hg, hi => spL_alike hb hb' l hg hi
 | .star r, st, hg, hi => spX_alike hb hb' r hg hi
 | .empty, st, hg, hi => ⟨hi, fun h => ⟨h, trivial⟩⟩
theorem spL_alike {b b' : Nat} (hb : b < 256) (hb' : b' < 256) : ∀ (l : List RX) {st : St}, Good st → Inv b b' st → Inv b b' (spL l st) ∧ ((spL l st).1.getD b 0 = (spL l st).1.getD b' 0 → st.1.getD b 0 = st.1.getD b' 0 ∧ leafL (Alike b b') l)
 | [], st, hg, hi => ⟨hi, fun h => ⟨h, trivial⟩⟩
 | r :: l, st, hg, hi => by
  obtain ⟨h1, h2⟩ := spX_alike hb hb' r hg hi
  obtain ⟨h3, h4⟩ := spL_alike hb hb' l (spX_good r hg) h1
  exact ⟨h3, fun h => ⟨(h2 (h4 h).1).1, (h2 (h4 h).1).2, (h4 h).2⟩⟩
end
end Go.Proofs.X5
namespace Go.Proofs.YtochckefnjobhaaGreatDoor
open Go Go.RowKit Go.Lib
open X3 (RX Pl)
open X5 (Aut)
set_option linter.unusedVariables false
abbrev Pm (l : List RX) : List Pl := (X4.mk l 0 [] []).2.1
abbrev Tm (l : List RX) : List Nat := (X4.mk l 0 [] []).2.2
theorem cls_alike (l : List RX) {b b' : Nat} (hb : b < 256) (hb' : b' < 256) (h : (clsX l).getD b 0 = (clsX l).getD b' 0) : ∀ pl ∈ Pm l, X3.hasX pl.b b = X3.hasX pl.b b' := by
 have h1 := (X5.spL_alike hb hb' l (st := (zs0, [])) good_zero (fun _ q hq => by cases hq)).2 h
 exact X5.mk_leaf (Q := X5.Alike b b') rfl l 0 [] [] h1.2 (by intro x hx; cases hx)
def StepR (l : List RX) (A : List Nat) (x : Nat) (B : List Nat) : Prop := X4.Closed (Pm l) (Tm l) (fun n => ∃ p pl, p ∈ A ∧ (Pm l)[p]? = some pl ∧ X3.hasX pl.b x = true ∧ pl.next = n) B
theorem StepR.alike {l : List RX} {A B : List Nat} {b b' : Nat} (hb : b < 256) (hb' : b' < 256) (h : (clsX l).getD b 0 = (clsX l).getD b' 0) (k : StepR l A b B) : StepR l A b' B :=
 Closed.congr k fun n => by
  constructor
  ·rintro ⟨p, pl, h1, h2, h3, h4⟩
   exact ⟨p, pl, h1, h2, by rw [← cls_alike l hb hb' h pl (List.mem_of_getElem? h2)]; exact h3, h4⟩
  ·rintro ⟨p, pl, h1, h2, h3, h4⟩
   exact ⟨p, pl, h1, h2, by rw [cls_alike l hb hb' h pl (List.mem_of_getElem? h2)]; exact h3, h4⟩
theorem StepR.at_ {l : List RX} {A B : List Nat} {s : List UInt8} {x : UInt8} (h : AtN l s A) (k : StepR l A x.toNat B) : AtN l (s ++ [x]) B := h.step k
theorem StepR.ext {l : List RX} {A B C : List Nat} {x : Nat} (h : StepR l A x B) (k : StepR l A x C) : B = C := X4.Closed.ext h k fun _ => Iff.rfl
structure Sets (l : List RX) (A0 : List Nat) (D : Aut) (SS : List (List Nat)) : Prop where
 cls : D.cls = (clsX l).map fun (n : Nat) => (n : Int)
 begin_ : SS[0]? = some A0
 nlen : D.next.length = SS.length
 tlen : D.tags.length = SS.length
 rows : ∀ i A, SS[i]? = some A → (X5.rowOf D i).length = (X5.fsX (clsX l) 256).length ∧ ∀ c f, (X5.fsX (clsX l) 256)[c]? = some f → ∃ B, StepR l A f B ∧ ((B = [] ∧ (X5.rowOf D i).getD c 0 = -1) ∨ (B ≠ [] ∧ ∃ n : Nat, (X5.rowOf D i).getD c 0 = (n : Int) ∧ SS[n]? = some B))
 tags : ∀ i A, SS[i]? = some A → D.tags.getD i 0 = X4.tagsX (Tm l) A
theorem sets_go {l : List RX} {A0 : List Nat} {D : Aut} {SS : List (List Nat)} (h : Sets l A0 D SS) (h0 : AtN l [] A0) (s : List UInt8) :
  (X5.goX D s 0 = -1 ∧ AtN l s []) ∨ ∃ (i : Nat) (A : List Nat), X5.goX D s 0 = (i : Int) ∧ SS[i]? = some A ∧ AtN l s A := by
 have hfirst := X5.fs_all (cls_first l) 256 (by have := (cls_good l).1; exact Nat.le_of_eq this.symm)
 have hlen : (clsX l).length = 256 := (cls_good l).1
 have key : ∀ (t : List UInt8) (s : List UInt8) (a : Int), ((a = -1 ∧ AtN l s []) ∨ ∃ (i : Nat) (A : List Nat), a = (i : Int) ∧ SS[i]? = some A ∧ AtN l s A) →
   (X5.goX D t a = -1 ∧ AtN l (s ++ t) []) ∨ ∃ (i : Nat) (A : List Nat), X5.goX D t a = (i : Int) ∧ SS[i]? = some A ∧ AtN l (s ++ t) A := by
  intro t
  induction t with
  | nil => intro s a h; rw [List.append_nil]; exact h
  | cons b t ih =>
   intro s a ha
   rw [X5.goX, show s ++ b :: t = (s ++ [b]) ++ t by simp]
   refine ih (s ++ [b]) _ ?_
   have hb := b.toNat_lt
   rcases ha with ⟨rfl, hA⟩ | ⟨i, A, rfl, hS, hA⟩
   ·left
    refine ⟨?_, none_step hA b⟩
    unfold X5.behX
    rw [if_pos (.inl (by omega))]
   ·have hi : i < SS.length := (List.getElem?_eq_some_iff.1 hS).1
    obtain ⟨hrl, hr⟩ := h.rows i A hS
    have hc : D.cls.getD b.toNat 0 = (((clsX l).getD b.toNat 0 : Nat) : Int) := by
     rw [h.cls, List.getD_eq_getElem?_getD, List.getElem?_map, List.getElem?_eq_getElem (by omega), List.getD_eq_getElem?_getD, List.getElem?_eq_getElem (by omega)]; rfl
    have hcl := hfirst.1 b.toNat hb
    obtain ⟨f, hf, hfl, hfc⟩ := hfirst.2 _ hcl
    obtain ⟨B, hB, hcase⟩ := hr _ f hf
    have hB2 : StepR l A b.toNat B := hB.alike (by omega) hb hfc
    have hat := hB2.at_ hA
    have hbe : X5.behX D (i : Int) b.toNat = if (X5.rowOf D i).getD ((clsX l).getD b.toNat 0) 0 < 0 ∨ (D.next.length : Int) ≤ (X5.rowOf D i).getD ((clsX l).getD b.toNat 0) 0 then -1 else (X5.rowOf D i).getD ((clsX l).getD b.toNat 0) 0 := by
     unfold X5.behX
     rw [if_neg (by rw [h.nlen]; omega), hc, Int.toNat_natCast, Int.toNat_natCast, if_neg (by rw [hrl]; omega)]
    rw [hbe]
    rcases hcase with ⟨rfl, hv⟩ | ⟨hne, n, hv, hn⟩
    ·left
     rw [hv, if_pos (.inl (by omega))]
     exact ⟨rfl, hat⟩
    ·right
     have hnl := (List.getElem?_eq_some_iff.1 hn).1
     rw [hv, if_neg (by rw [h.nlen]; omega)]
     exact ⟨n, B, rfl, hn, hat⟩
 have := key s [] 0 (.inr ⟨0, A0, rfl, h.begin_, h0⟩)
 rwa [List.nil_append] at this
theorem sets_run {l : List RX} {A0 : List Nat} {D : Aut} {SS : List (List Nat)} (h : Sets l A0 D SS) (h0 : AtN l [] A0) (s : List UInt8) {R : Nat} (hR : RunR l s R) : X5.runX D s = R := by
 unfold X5.runX
 rcases sets_go h h0 s with ⟨e, hA⟩ | ⟨i, A, e, hS, hA⟩
 ·rw [e, if_pos (.inl (by omega))]
  exact (none_run hA).ext hR
 ·have hi : i < SS.length := (List.getElem?_eq_some_iff.1 hS).1
  rw [e, if_neg (by rw [h.nlen, h.tlen]; omega), Int.toNat_natCast, h.tags i A hS]
  refine Nat.eq_of_testBit_eq fun k => ?_
  rw [Bool.eq_iff_iff, hR.2]
  exact X4.run_tags hA k
end Go.Proofs.YtochckefnjobhaaGreatDoor
