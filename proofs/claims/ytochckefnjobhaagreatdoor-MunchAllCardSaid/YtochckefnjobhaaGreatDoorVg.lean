/- The document's All. -/
import Derived.Test.YtochckefnjobhaaGreatDoorVf
namespace Go.Proofs.X7
open Go.Proofs.YtochckefnjobhaaGreatDoor.B1 (firstOf upto mem_upto)
theorem one_lt (left : Nat) : oneX left < 64 := by
 unfold oneX
 split
 ·rename_i h
  obtain ⟨x, e⟩ := List.length_eq_one_iff.1 h
  have : x ∈ upto left 64 := by rw [e]; simp
  have hx := (mem_upto.1 this).1
  rw [e]
  show (x : Int) < 64
  omega
 ·omega
end Go.Proofs.X7
namespace Go.Proofs.YtochckefnjobhaaGreatDoor
open Go Go.RowKit Go.Lib
open X5 (Aut)
open X7 (M64)
set_option linter.unusedVariables false
set_option linter.unusedSimpArgs false
theorem info63 : (Tryz.prog.info? 63).map (fun i => (i.zero, i.size, i.bytes)) = some (some (.agg #[.int .u64 0, .int .i64 0]), 2, 16) := by kernel_rfl
theorem wpList_push63 {ops : Array Oper} {rest : List Oper} {o : Oper} {a : Act} {w : World} {Q : Exit → Act → World → Prop} (hgd : o.guard = none) (s x : Operand) (ho : o.op = .call { callee := .builtin .append, args := #[s, x], argTypes := #[73, 73] })
  (base : Nat) (v : Value) (n : Nat) (xs : List Value) (hs : a.eval s = v) (hown : w.ownsRow base 63 2 v n xs) (g : Nat) (hx : a.eval x = .slice (some ⟨g, 0, none⟩) 1 1) (p q : Int) (hb : w.heap[g]? = some (.cells #[.int .u64 p, .int .i64 q] 63 (0, 0))) (hn : n ≤ 1000000) (hbase : base ≤ w.heap.size)
  (h : ∀ v' w', w'.ownsRow base 63 2 v' (n + 1) (xs ++ [.int .u64 p, .int .i64 q]) → w.grownBy w' v.ownBlock → (v'.ownBlock = v.ownBlock ∨ v'.ownBlock = some w.heap.size) → wpList Tryz.prog ops Q rest (a.put o.dst v') w') : wpList Tryz.prog ops Q (o :: rest) a w := by
 obtain ⟨i, hi, h0, h1, h2⟩ := info_parts info63
 refine wpList_append_own_at w hgd s x 73 ho base 63 i _ 2 16 Tryz.underlying73 hi h0 h1 h2 rfl (by decide) v n xs hs hown ⟨g, 0, none⟩ 1 1 [.int .u64 p, .int .i64 q] hx rfl (fun j u hj => ?_) (fun u hu => ?_) (by unfold maxLen; omega) ?_ hbase (fun v' w' a1 a2 _ a4 => h v' w' a1 a2 a4)
 ·rw [add_one_cell, Nat.zero_add, Lib.cell_of_heap hb, ← hj]
  simp
 ·simp at hu; rcases hu with rfl | rfl <;> rfl
 ·omega
set_option maxRecDepth 100000 in
set_option maxHeartbeats 4000000 in
theorem allR_any {D : Aut} {dd : Array Value} (w : World) (hL : Lies D dd w) (s : ByteArray) (hs : s.size ≤ 100000) (may : Nat) (hmay : may < M64) (v : Value) (l : List (Int × Int)) (hv : OverAt w v l) (hl : l.length ≤ 1000000) :
  Calls Tryz.prog 35 #[.agg dd, .string s, .int .u64 (may : Int), v] w fun e w' => ∃ o c, e = .returned (.tuple #[.slice o (X7.allT D (LL s) may l).1.length c, .int .i64 (X7.allT D (LL s) may l).2]) ∧ w'.ownsRow w.heap.size 63 2 (.slice o (X7.allT D (LL s) may l).1.length c) (X7.allT D (LL s) may l).1.length (pcells (X7.allT D (LL s) may l).1) ∧ Below w.heap.size w w' := by
 obtain ⟨w1, e1⟩ : ∃ w1, w.alloc (.cells dd 34) = w1 := ⟨_, rfl⟩
 have hb1 : Below w.heap.size w w1 := by rw [← e1]; exact (Below.refl _ _).alloc (Nat.le_refl _) _
 have hx1 : w1.heap[w.heap.size]? = some (.cells dd 34 (0, 0)) := by rw [← e1]; exact new_block _ _
 have hsw1 : w.heap.size ≤ w1.heap.size := hb1.size
 have HX := hid (show w1.heap[w.heap.size]? = some (.cells dd 34 (0, 0)) from hx1)
 have HSZ := hid hL.sz
 have HB1 := hid hb1
 have HL := hid (hL.below hb1)
 have HV := hid (hv.below hb1)
 have hls : (LL s).length = s.size := Array.length_toList
 obtain ⟨vo, vn, vc, hvs⟩ : ∃ vo vn vc, v = .slice vo vn vc := by obtain ⟨ro, rc, e, _⟩ := hv; exact ⟨_, _, _, e⟩
 subst hvs
 obtain ⟨T, hT⟩ : ∃ T, X7.allT D (LL s) may l = T := ⟨_, rfl⟩
 have HI0 : Hid (([] : List (Nat × Int)) ++ (X7.allX D (LL s) may l (s.size + 1) 0).1 = T.1 ∧ (X7.allX D (LL s) may l (s.size + 1) 0).2 = T.2) := hid (by rw [← hT]; unfold X7.allT; rw [hls]; exact ⟨rfl, rfl⟩)
 rw [hT]
 have HLs := hid hls
 clear hv hL hx1 hb1 hT hls
 go_enter Tryz.func35, Tryz.ntmps35
 go_wp2_with fail
 clear e1
 go_loopw [10, 11] (fun t10 t11 wr => ∃ (acc : List (Nat × Int)) (z : Int) (o : Option Addr) (c : Nat), t10 = .slice o acc.length c ∧ t11 = .int .i64 z ∧ 0 ≤ z ∧ z ≤ (s.size : Int) ∧ acc.length ≤ z.toNat ∧ Hid (acc ++ (X7.allX D (LL s) may l (s.size + 1) z).1 = T.1 ∧ (X7.allX D (LL s) may l (s.size + 1) z).2 = T.2) ∧ Hid (wr.ownsRow w1.heap.size 63 2 (.slice o acc.length c) acc.length (pcells acc)) ∧ Hid (Below w1.heap.size w1 wr)) (fun _ t11 _ => s.size - (RowKit.intOf t11).toNat)
 case atStart => exact ⟨[], 0, none, 0, rfl, rfl, Int.le_refl _, by omega, Nat.zero_le _, HI0, hid ⟨rfl, .inl ⟨rfl, rfl⟩⟩, hid (Below.refl _ _)⟩
 case round =>
  clear HI0
  obtain ⟨acc, z, o, c, rfl, rfl, hz0, hz1, hal, HT, HO, HB⟩ := hrel
  have hle := HB.out.size
  have HXr := hid ((HB.out.block _ (Array.getElem?_eq_some_iff.1 HX.out).1).trans HX.out)
  have K := hid (pickR_any wr (HL.out.below HB.out) s (by omega) z (by simp [Lit.wf, IntKind.min, IntKind.max, IntKind.signed, IntKind.bits]; omega) may hmay _ l (HV.out.below HB.out) hl)
  have HPP := hid (fun h => X7.pick_pos D (LL s) z may l h)
  have HS := hid (show X7.allX D (LL s) may l (s.size + 1) z = if (X7.pickX D (LL s) z may l).1 < 0 then ([], z) else ((B1.bitN (X7.pickX D (LL s) z may l).1, (X7.pickX D (LL s) z may l).2) :: (X7.allX D (LL s) may l s.size (X7.pickX D (LL s) z may l).2).1, (X7.allX D (LL s) may l s.size (X7.pickX D (LL s) z may l).2).2) from rfl)
  obtain ⟨n, hn⟩ : ∃ n : Int, (X7.pickX D (LL s) z may l).1 = n := ⟨_, rfl⟩
  obtain ⟨z2, hz2⟩ : ∃ z2 : Int, (X7.pickX D (LL s) z may l).2 = z2 := ⟨_, rfl⟩
  have hone := X7.one_lt (X7.winX (X7.lgX D (LL s) z may).1 l)
  have HN64 := hid (show n < 64 from by rw [← hn]; exact hone)
  rw [hn, hz2] at K HPP HS
  clear hone
  clear hn hz2
  go_wp2_with fail
  refine wp_load34 (.tmp 4) rfl w.heap.size rfl dd HXr.out HSZ.out.1 ?_
  go_wp2_with fail
  refine K.out.mono ?_
  rintro e w2 ⟨rfl, hb2⟩
  have HB2 := hid (HB.out.trans (hb2.mono hle))
  have HO2 := hid (own2_below HO.out hb2)
  have hle2 := HB2.out.size
  clear K hb2
  by_cases hn0 : n < 0
  ·have hT := HT.out
   rw [HS.out, if_pos hn0, List.append_nil] at hT
   obtain ⟨hT1, hT2⟩ := hT
   have hT2' : z = T.2 := hT2
   go_wp2_with fail
   refine bodyPost_ret (results_tmp2 rfl _ _ _) rfl ?_
   refine ⟨o, c, ?_, ?_, HB1.out.trans (HB2.out.mono hsw1)⟩
   ·rw [← hT1, ← hT2']; rfl
   ·rw [← hT1]
    exact ⟨HO2.out.1, HO2.out.2.imp id fun ⟨g, cap, cur, k1, k2, k3⟩ => ⟨g, cap, cur, k1, Nat.le_trans hsw1 k2, k3⟩⟩
  ·have hp := HPP.out (by omega)
   rw [HLs.out] at hp
   have hn64 := HN64.out
   obtain ⟨m, hm⟩ : ∃ m : Nat, n = (m : Int) := ⟨n.toNat, by omega⟩
   have KO := hid (B1.RBit_any m (by omega) w2)
   rw [← hm] at KO
   have HB3 := HB2
   have HO3 := HO2
   obtain ⟨w4, e4⟩ : ∃ w4, w2.alloc (.cells #[.int .u64 (B1.bitN n : Int), .int .i64 z2] 63) = w4 := ⟨_, rfl⟩
   have hb4 : Below w2.heap.size w2 w4 := by rw [← e4]; exact (Below.refl _ _).alloc (Nat.le_refl _) _
   have HN4 := hid (show w4.heap[w2.heap.size]? = some (.cells #[.int .u64 (B1.bitN n : Int), .int .i64 z2] 63 (0, 0)) from by rw [← e4]; exact new_block _ _)
   have HB4 := hid (HB3.out.trans (hb4.mono HB3.out.size))
   have HO4 := hid (own2_below HO3.out hb4)
   have hle4 := HB4.out.size
   clear hb4 hm hn64
   go_wp2_with fail
   refine KO.out.mono ?_
   rintro e w' ⟨rfl, rfl⟩
   clear KO
   go_wp2_with (at_builtin; refine wpList_push63 rfl (.tmp 27) (.tmp 32) rfl w1.heap.size (.slice o acc.length c) acc.length (pcells acc) rfl HO4.out w2.heap.size rfl (B1.bitN n : Int) z2 HN4.out (by omega) hle4 ?_)
   intro v5 w5 hown hg hat
   obtain ⟨o5, c5, rfl⟩ := own2_shape hown
   have HB5 := hid (HB4.out.grown hg hle4 (fun k e => (own2_lt HO4.out k e).1))
   have hpl : pcells acc ++ [.int .u64 (B1.bitN n : Int), .int .i64 z2] = pcells (acc ++ [(B1.bitN n, z2)]) := (pcells_snoc acc (B1.bitN n, z2)).symm
   rw [hpl] at hown
   have HO5 := hid hown
   have HT5 := hid (show (acc ++ [(B1.bitN n, z2)]) ++ (X7.allX D (LL s) may l (s.size + 1) z2).1 = T.1 ∧ (X7.allX D (LL s) may l (s.size + 1) z2).2 = T.2 from by
    have hT := HT.out
    rw [HS.out, if_neg (by omega)] at hT
    rw [X7.all_fuel D (LL s) may l (s.size + 1) s.size z2 (by rw [HLs.out]; omega) (by rw [HLs.out]; omega) (by omega) (by rw [HLs.out]; omega)]
    obtain ⟨hT1, hT2⟩ := hT
    exact ⟨by rw [List.append_assoc]; exact hT1, hT2⟩)
   clear hown hg hat hpl e4
   go_wp2_with fail
   refine ⟨⟨acc ++ [(B1.bitN n, z2)], z2, o5, c5, by rw [List.length_append]; rfl, rfl, by omega, by omega, by rw [List.length_append, List.length_singleton]; omega, HT5, by rw [List.length_append]; exact HO5, HB5⟩, ?_⟩
   show s.size - (z2).toNat < s.size - (z).toNat
   omega
end Go.Proofs.YtochckefnjobhaaGreatDoor
