/- The document's Win. -/
import Derived.Test.YtochckefnjobhaaGreatDoorVd
namespace Go.Proofs.X7
open Go.Proofs.YtochckefnjobhaaGreatDoor.B1 (hasN lessN bitN testBit_lessN testBit_bitN ofN testBit_ofN ofN_lt set_ext and_bitN_ne)
set_option linter.unusedVariables false
def beats (tags : Nat) (n : Int) (p : Int × Int) : Bool := decide (p.2 = n) && (decide (p.1 ≠ n) && hasN tags p.1)
def beatX (tags : Nat) (n : Int) (l : List (Int × Int)) : Bool := l.any (beats tags n)
theorem beatX_snoc {tags : Nat} {n : Int} {l : List (Int × Int)} {k : Nat} {p : Int × Int} (h : l[k]? = some p) : beatX tags n (l.take (k + 1)) = (beatX tags n (l.take k) || beats tags n p) := by
 unfold beatX
 rw [List.take_add_one, h, List.any_append]
 simp
theorem win_bit (tags n : Nat) (hn : n < 64) : ∀ (l : List (Int × Int)) (left : Nat), (l.foldl (winS tags) left).testBit n = (left.testBit n && !beatX tags (n : Int) l)
 | [], left => by simp [beatX]
 | p :: l, left => by
  rw [List.foldl_cons, win_bit tags n hn l]
  have e : (winS tags left p).testBit n = (left.testBit n && !beats tags (n : Int) p) := by
   unfold winS beats
   by_cases c : p.1 ≠ p.2 ∧ hasN tags p.1 = true
   ·rw [if_pos c, testBit_lessN, testBit_bitN, c.2]
    by_cases d : p.2 = (n : Int)
    ·have d1 : p.1 ≠ (n : Int) := by rw [← d]; exact c.1
     have d2 : 0 ≤ p.2 ∧ p.2 < 64 ∧ (n : Int) = p.2 := by omega
     simp [d, d1]
     intro _
     omega
    ·have d2 : ¬ (n : Int) = p.2 := fun e => d e.symm
     simp [d, d2]
   ·rw [if_neg c]
    by_cases d : p.2 = (n : Int)
    ·by_cases d1 : p.1 = (n : Int)
     ·simp [d, d1]
     ·have : hasN tags p.1 = false := by
       cases k : hasN tags p.1 with
       | false => rfl
       | true => exact absurd ⟨by rw [d]; exact d1, k⟩ c
      simp [this]
    ·simp [d]
  rw [e]
  show (left.testBit n && !beats tags (n : Int) p && !beatX tags (n : Int) l) = (left.testBit n && !(beats tags (n : Int) p || l.any (beats tags (n : Int))))
  unfold beatX
  cases left.testBit n <;> cases beats tags (n : Int) p <;> cases l.any (beats tags (n : Int)) <;> rfl
def leftX (tags : Nat) (l : List (Int × Int)) (n : Nat) : List Nat := (List.range n).filter fun (k : Nat) => tags.testBit k && !beatX tags (k : Int) l
theorem leftX_hit {tags : Nat} {l : List (Int × Int)} {n : Nat} (h : (tags.testBit n && !beatX tags (n : Int) l) = true) : leftX tags l (n + 1) = leftX tags l n ++ [n] := by
 unfold leftX
 rw [List.range_succ, List.filter_append]
 simp [h]
theorem leftX_miss {tags : Nat} {l : List (Int × Int)} {n : Nat} (h : (tags.testBit n && !beatX tags (n : Int) l) = false) : leftX tags l (n + 1) = leftX tags l n := by
 unfold leftX
 rw [List.range_succ, List.filter_append]
 simp only [List.filter_cons, h]
 simp
theorem leftX_len (tags : Nat) (l : List (Int × Int)) (n : Nat) : (leftX tags l n).length ≤ n := by
 unfold leftX
 refine Nat.le_trans (List.length_filter_le _ _) ?_
 rw [List.length_range]; exact Nat.le_refl _
theorem leftX_win {tags : Nat} (ht : tags < M64) (l : List (Int × Int)) : ofN ((leftX tags l 64).map fun k : Nat => (k : Int)) = winX tags l := by
 refine set_ext (ofN_lt _) (win_fold_lt tags l tags ht) fun i hi => ?_
 rw [testBit_ofN, show (winX tags l).testBit i = _ from win_bit tags i hi l tags]
 have hm : ((i : Int) ∈ (leftX tags l 64).map fun k : Nat => (k : Int)) ↔ (tags.testBit i && !beatX tags (i : Int) l) = true := by
  unfold leftX
  rw [List.mem_map]
  constructor
  ·rintro ⟨k, hk, e⟩
   have : k = i := by omega
   subst this
   exact (List.mem_filter.1 hk).2
  ·intro h
   exact ⟨i, List.mem_filter.2 ⟨List.mem_range.2 hi, h⟩, rfl⟩
 rw [Bool.eq_iff_iff, decide_eq_true_iff, hm]
 exact ⟨fun h => h.2, fun h => ⟨hi, h⟩⟩
end Go.Proofs.X7
namespace Go.Proofs.YtochckefnjobhaaGreatDoor
open Go Go.RowKit Go.Lib
open X7 (M64)
set_option linter.unusedVariables false
set_option linter.unusedSimpArgs false
theorem listed_of {w : World} {B : Nat} {v : Value} {l : List Nat} (h : w.ownsRow B 3 1 v l.length (B1.nums l)) : B1.Reads w v (B1.ints l) := by
 obtain ⟨o, c, rfl⟩ := own_shape h
 refine ⟨o, c, by simp [B1.ints], fun hne => ?_⟩
 have hl : 0 < l.length := by
  cases l with
  | nil => simp [B1.ints] at hne
  | cons x r => simp
 obtain ⟨g, rfl, _, _⟩ := own_at (k := 0) h hl (show (B1.nums l)[0]? = some (.int .i64 (l[0] : Int)) by simp [B1.nums, hl])
 refine ⟨g, 0, rfl, fun i hi => ?_⟩
 have hi' : i < l.length := by simpa [B1.ints] using hi
 rw [Nat.zero_add, own_cell h hi' (show (B1.nums l)[i]? = some (.int .i64 (l[i] : Int)) by simp [B1.nums, hi'])]
 simp [B1.ints, hi']
set_option maxRecDepth 100000 in
set_option maxHeartbeats 8000000 in
theorem winR_any (tags : Nat) (ht : tags < M64) (v : Value) (l : List (Int × Int)) (w : World) (hv : OverAt w v l) (hl : l.length ≤ 1000000) :
  Calls Tryz.prog 33 #[.int .u64 (tags : Int), v] w fun e w' => e = .returned (.int .u64 ((X7.winX tags l : Nat) : Int)) ∧ Below w.heap.size w w' := by
 obtain ⟨vo, vc, rfl⟩ : ∃ vo vc, v = .slice vo l.length vc := by obtain ⟨ro, rc, e, _⟩ := hv; exact ⟨_, _, e⟩
 have HV := hid hv
 clear hv
 go_enter Tryz.func33, Tryz.ntmps33
 go_wp2_with fail
 go_loopw [5, 6] (fun t5 t6 wr => ∃ (n : Nat) (o : Option Addr) (c : Nat), n ≤ 64 ∧ t6 = .int .i64 (n : Int) ∧ t5 = .slice o (X7.leftX tags l n).length c ∧ Hid (wr.ownsRow w.heap.size 3 1 (.slice o (X7.leftX tags l n).length c) (X7.leftX tags l n).length (B1.nums (X7.leftX tags l n))) ∧ Hid (Below w.heap.size w wr)) (fun _ t6 _ => 64 - (RowKit.intOf t6).toNat)
 case atStart => exact ⟨0, none, 0, Nat.zero_le _, rfl, rfl, hid ⟨rfl, .inl ⟨rfl, rfl⟩⟩, hid (Below.refl _ _)⟩
 case round =>
  obtain ⟨n, o, c, hn, rfl, rfl, HO, HB⟩ := hrel
  have HVr := hid (HV.out.below HB.out)
  have hle := HB.out.size
  have hul := X7.leftX_len tags l n
  by_cases hlt : n < 64
  ·have h1 : (n : Int) < 64 := by omega
   have h2 : (0 : Int) ≤ (n : Int) := by omega
   obtain ⟨U, hU⟩ : ∃ U, X7.leftX tags l n = U := ⟨_, rfl⟩
   have HU := hid hU
   rw [hU] at HO hul
   simp only [hU]
   have hwx : wr = wr := rfl
   obtain ⟨w9, hw9⟩ : ∃ w9, w9 = wr := ⟨_, rfl⟩
   rw [← hw9] at HO HB HVr hle
   rw [← hw9]
   clear hU hwx hw9
   go_wp2_with fail
   go_loopw [7, 8] (fun t7 t8 wx => ∃ i : Nat, i ≤ l.length ∧ t8 = .int .i64 (i : Int) ∧ (∃ bb : Bool, t7 = .bool bb ∧ Hid (bb = X7.beatX tags (n : Int) (l.take i))) ∧ w9 = wx) (fun _ t8 _ => l.length - (RowKit.intOf t8).toNat)
   case atStart => exact ⟨0, Nat.zero_le _, rfl, ⟨false, rfl, hid rfl⟩, by first | exact True.intro | rfl⟩
   case round =>
    obtain ⟨i, hi, rfl, ⟨bb, rfl, HBB⟩, hw⟩ := hrel
    subst hw
    by_cases hil : i < l.length
    ·have k1 : (i : Int) < (l.length : Int) := by omega
     have k2 : (0 : Int) ≤ (i : Int) := by omega
     obtain ⟨ro, rc, hro, hov⟩ := HVr.out
     injection hro with hro1 hro2 hro3
     subst hro1
     obtain ⟨b, off, hrr, hbl, ca, cb⟩ := hov i hil
     subst hrr
     obtain ⟨pp, hpp⟩ : ∃ pp, l[i]? = some pp := ⟨_, List.getElem?_eq_getElem hil⟩
     have hpk : l[i] = pp := by rw [List.getElem?_eq_getElem hil] at hpp; exact Option.some.inj hpp
     obtain ⟨p, q⟩ := pp
     rw [hpk] at ca cb
     have HST := hid (X7.beatX_snoc (tags := tags) (n := (n : Int)) hpp)
     have HBT := hid (show X7.beats tags (n : Int) (p, q) = (decide (q = (n : Int)) && (decide (p ≠ (n : Int)) && B1.hasN tags p)) from rfl)
     clear hov hro2 hro3 hpp hpk
     cases bb with
     | true =>
      go_wp2_with fail
      refine ⟨⟨i + 1, by omega, rfl, ⟨true, rfl, hid (by rw [HST.out, ← HBB.out]; rfl)⟩, by first | exact True.intro | rfl⟩, ?_⟩
      show l.length - ((i : Int) + 1).toNat < l.length - ((i : Int)).toNat
      omega
     | false =>
      by_cases hq : q = (n : Int)
      ·by_cases hp : p = (n : Int)
       ·have hbf : X7.beats tags (n : Int) (p, q) = false := by rw [HBT.out, hp]; simp
        have HBF := hid hbf
        subst hq hp
        clear hbf
        go_wp2_with fail
        refine ⟨⟨i + 1, by omega, rfl, ⟨false, rfl, hid (by rw [HST.out, ← HBB.out, HBF.out]; rfl)⟩, by first | exact True.intro | rfl⟩, ?_⟩
        show l.length - ((i : Int) + 1).toNat < l.length - ((i : Int)).toNat
        omega
       ·have KH := hid (B1.RHas_any tags p ht w9)
        have hbf : X7.beats tags (n : Int) (p, q) = B1.hasN tags p := by rw [HBT.out, hq]; simp [hp]
        have HBF := hid hbf
        have g1 : (p != (n : Int)) = true := by simp [hp]
        have g2 : (q == (n : Int)) = true := by simp [hq]
        clear hbf hq
        go_wp2_with fail
        refine KH.out.mono ?_
        rintro e w' ⟨rfl, rfl⟩
        go_wp2_with fail
        refine ⟨⟨i + 1, by omega, rfl, ⟨B1.hasN tags p, rfl, hid (by rw [HST.out, ← HBB.out, HBF.out]; rfl)⟩, by first | exact True.intro | rfl⟩, ?_⟩
        show l.length - ((i : Int) + 1).toNat < l.length - ((i : Int)).toNat
        omega
      ·have hbf : X7.beats tags (n : Int) (p, q) = false := by rw [HBT.out]; simp [hq]
       have HBF := hid hbf
       have g2 : (q == (n : Int)) = false := by simp [hq]
       clear hbf
       go_wp2_with fail
       refine ⟨⟨i + 1, by omega, rfl, ⟨false, rfl, hid (by rw [HST.out, ← HBB.out, HBF.out]; rfl)⟩, by first | exact True.intro | rfl⟩, ?_⟩
       show l.length - ((i : Int) + 1).toNat < l.length - ((i : Int)).toNat
       omega
    ·have k1 : ¬ (i : Int) < (l.length : Int) := by omega
     have hil2 : i = l.length := by omega
     have HBX := hid (show bb = X7.beatX tags (n : Int) l from by rw [HBB.out, hil2, List.take_length])
     have KH := hid (B1.RHas_any tags (n : Int) ht w9)
     have hhn : B1.hasN tags (n : Int) = tags.testBit n := by
      rw [Bool.eq_iff_iff, B1.has_iff]
      exact ⟨fun h => h.2.2, fun h => ⟨by omega, by omega, h⟩⟩
     rw [hhn] at KH
     clear hhn HBB hil2
     have hle9 := hle
     clear hle
     cases hb : tags.testBit n with
     | false =>
      have HM := hid (show X7.leftX tags l (n + 1) = U from by rw [X7.leftX_miss (by rw [hb]; rfl), HU.out])
      rw [hb] at KH
      clear hb
      go_wp2_with fail
      refine KH.out.mono ?_
      rintro e w' ⟨rfl, rfl⟩
      go_wp2_with fail
      refine ⟨⟨n + 1, o, c, by omega, rfl, by rw [HM.out], by rw [HM.out]; exact HO, HB⟩, ?_⟩
      show 64 - ((n : Int) + 1).toNat < 64 - ((n : Int)).toNat
      omega
     | true =>
      rw [hb] at KH
      cases bb with
      | true =>
       have HM := hid (show X7.leftX tags l (n + 1) = U from by rw [X7.leftX_miss (by rw [hb, ← HBX.out]; rfl), HU.out])
       clear hb
       go_wp2_with fail
       refine KH.out.mono ?_
       rintro e w' ⟨rfl, rfl⟩
       go_wp2_with fail
       refine ⟨⟨n + 1, o, c, by omega, rfl, by rw [HM.out], by rw [HM.out]; exact HO, HB⟩, ?_⟩
       show 64 - ((n : Int) + 1).toNat < 64 - ((n : Int)).toNat
       omega
      | false =>
       have HM := hid (show X7.leftX tags l (n + 1) = U ++ [n] from by rw [X7.leftX_hit (by rw [hb, ← HBX.out]; rfl), HU.out])
       have HN1 := hid (HO.out.alloc (.cells #[.int .i64 (n : Int)] 3 (0, 0)))
       have HN5 := hid (new_block w9 (.cells #[.int .i64 (n : Int)] 3 (0, 0)))
       have HBA := hid (HB.out.alloc hle9 (.cells #[.int .i64 (n : Int)] 3 (0, 0)))
       have HLA := hid HBA.out.size
       have HLL := hid hle9
       clear hb
       go_wp2_with fail
       refine KH.out.mono ?_
       rintro e w' ⟨rfl, rfl⟩
       go_wp2_with (at_builtin; refine wpList_push1 rfl (.tmp 54) (.tmp 56) 87 3 rfl (.int .i64 0) 8 Tryz.underlying87 info3 rfl (by decide) w.heap.size (.slice _ U.length c) U.length (B1.nums U) rfl HN1.out w9.heap.size rfl (.int .i64 (n : Int)) HN5.out rfl (by omega) HLA.out ?_)
       intro v5 w5 hown5 hg5 hat5
       obtain ⟨so5, sc5, rfl⟩ := own_shape hown5
       have HB5 := hid (HBA.out.grown hg5 (by have := HLA.out; omega) fun k e => (HO.out.lt k e).1)
       have HR5 := hid (show w5.ownsRow w.heap.size 3 1 (.slice so5 (U ++ [n]).length sc5) (U ++ [n]).length (B1.nums (U ++ [n])) from by
        rw [List.length_append, show B1.nums (U ++ [n]) = B1.nums U ++ [.int .i64 (n : Int)] from by simp [B1.nums]]; exact hown5)
       clear hown5 hg5 hat5
       go_wp2_with fail
       refine ⟨⟨n + 1, so5, sc5, by omega, rfl, by rw [HM.out, List.length_append]; rfl, by rw [HM.out]; exact HR5, HB5⟩, ?_⟩
       show 64 - ((n : Int) + 1).toNat < 64 - ((n : Int)).toNat
       omega
  ·have hn64 : n = 64 := by omega
   subst hn64
   have hll : (B1.ints (X7.leftX tags l 64)).length ≤ 9223372036854775807 := by
    have : (B1.ints (X7.leftX tags l 64)).length = (X7.leftX tags l 64).length := by simp [B1.ints]
    omega
   have KO := hid (B1.ROf_reads hll (listed_of HO.out))
   have HWN := hid (show B1.ofN (B1.ints (X7.leftX tags l 64)) = X7.winX tags l from X7.leftX_win ht l)
   rw [HWN.out] at KO
   clear hll
   go_wp2_with fail
   refine KO.out.mono ?_
   rintro e w' ⟨rfl, rfl⟩
   go_wp2_with fail
   go_ret
   exact ⟨rfl, HB.out⟩
end Go.Proofs.YtochckefnjobhaaGreatDoor

/- The document's Pick. -/
namespace Go.Proofs.YtochckefnjobhaaGreatDoor
open Go Go.RowKit Go.Lib
open X5 (Aut)
open X7 (M64)
set_option linter.unusedVariables false
set_option linter.unusedSimpArgs false
set_option maxRecDepth 100000 in
set_option maxHeartbeats 8000000 in
theorem pickR_any {D : Aut} {dd : Array Value} (w : World) (hL : Lies D dd w) (s : ByteArray) (hs : s.size ≤ 1000000) (z : Int) (hz : (Lit.int .i64 z).wf = true) (may : Nat) (hmay : may < M64) (v : Value) (l : List (Int × Int)) (hv : OverAt w v l) (hl : l.length ≤ 1000000) :
  Calls Tryz.prog 31 #[.agg dd, .string s, .int .i64 z, .int .u64 (may : Int), v] w fun e w' => e = .returned (.tuple #[.int .i64 (X7.pickX D (LL s) z may l).1, .int .i64 (X7.pickX D (LL s) z may l).2]) ∧ Below w.heap.size w w' := by
 obtain ⟨w1, e1⟩ : ∃ w1, w.alloc (.cells dd 34) = w1 := ⟨_, rfl⟩
 have hb1 : Below w.heap.size w w1 := by rw [← e1]; exact (Below.refl _ _).alloc (Nat.le_refl _) _
 have HX := hid (show w1.heap[w.heap.size]? = some (.cells dd 34 (0, 0)) from by rw [← e1]; exact new_block _ _)
 have HSZ := hid hL.sz
 have HB1 := hid hb1
 have KL := hid (longestR_any w1 (hL.below hb1) s hs z hz may hmay)
 have HV := hid hv
 have HLT := hid (X7.lg_lt D (LL s) z may hmay)
 have HPX := hid (show X7.pickX D (LL s) z may l = (X7.oneX (X7.winX (X7.lgX D (LL s) z may).1 l), (X7.lgX D (LL s) z may).2) from rfl)
 obtain ⟨q1, hq1⟩ : ∃ q1 : Nat, (X7.lgX D (LL s) z may).1 = q1 := ⟨_, rfl⟩
 obtain ⟨q2, hq2⟩ : ∃ q2 : Int, (X7.lgX D (LL s) z may).2 = q2 := ⟨_, rfl⟩
 rw [hq1, hq2] at KL HPX
 rw [hq1] at HLT
 obtain ⟨vo, vn, vc, hvs⟩ : ∃ vo vn vc, v = .slice vo vn vc := by obtain ⟨ro, rc, e, _⟩ := hv; exact ⟨_, _, _, e⟩
 have HVS := hid hvs
 clear hv hL hb1 hq1 hq2 hvs
 go_enter Tryz.func31, Tryz.ntmps31
 go_wp2_with fail
 refine wp_load34 (.tmp 5) rfl w.heap.size rfl dd HX.out HSZ.out.1 ?_
 go_wp2_with fail
 refine KL.out.mono ?_
 rintro e w2 ⟨rfl, hb2⟩
 clear KL e1
 have HB2 := hid (HB1.out.trans (hb2.mono HB1.out.size))
 obtain ⟨w3, e3⟩ : ∃ w3, w2.alloc (.cells #[.int .u64 0, .int .i64 0] 63) = w3 := ⟨_, rfl⟩
 have hb3 : Below w2.heap.size w2 w3 := by rw [← e3]; exact (Below.refl _ _).alloc (Nat.le_refl _) _
 have n3 : w3.heap[w2.heap.size]? = some (.cells #[.int .u64 0, .int .i64 0] 63 (0, 0)) := by rw [← e3]; exact new_block _ _
 have c30 : World.cell? w3 ⟨w2.heap.size, 0, none⟩ = some (.int .u64 0) := Lib.cell_of_heap n3 0
 have c31 : World.cell? w3 ⟨w2.heap.size, 1, none⟩ = some (.int .i64 0) := Lib.cell_of_heap n3 1
 have f30 := Lib.frozen_of_heap n3 0
 have f31 := Lib.frozen_of_heap n3 1
 have HB3 := hid (HB2.out.trans (hb3.mono HB2.out.size))
 have hset := set_two n3 (.int .u64 (q1 : Int)) (.int .i64 q2)
 go_wp2_with fail
 generalize ((w3.setCell ⟨w2.heap.size, 0, none⟩ (.int .u64 (q1 : Int))).setCell ⟨w2.heap.size, 1, none⟩ (.int .i64 q2)) = w4 at hset ⊢
 have HK4 := hid (hset.2 (m := w.heap.size))
 have HN4 := hid hset.1
 have HB4 := hid (HK4.out.bel HB3.out (Nat.le_refl _) HB2.out.size)
 clear hset hb2 hb3 n3 c30 c31 f30 f31 e3 HK4
 have HWL := hid (show X7.winX q1 l < M64 from X7.win_fold_lt q1 l q1 HLT.out)
 have KW := hid (winR_any q1 HLT.out v l w4 (HV.out.below HB4.out) hl)
 obtain ⟨lf, hlf⟩ : ∃ lf, X7.winX q1 l = lf := ⟨_, rfl⟩
 rw [hlf] at KW HWL HPX
 clear hlf
 refine KW.out.mono ?_
 rintro e w5 ⟨rfl, hb5⟩
 have HB5 := hid (HB4.out.trans (hb5.mono HB4.out.size))
 have HN5 := hid ((hb5.block _ (Array.getElem?_eq_some_iff.1 HN4.out).1).trans HN4.out)
 have KC := hid (B1.RList_any lf HWL.out w5)
 clear hb5 KW
 go_wp2_with fail
 refine KC.out.mono ?_
 rintro e w6 ⟨rv, rfl, hls6, hb6⟩
 have HB6 := hid (HB5.out.trans (hb6.mono HB5.out.size))
 have HN6 := hid ((hb6.block _ (Array.getElem?_eq_some_iff.1 HN5.out).1).trans HN5.out)
 have c61 : w6.cell? ⟨w2.heap.size, 1, none⟩ = some (.int .i64 q2) := Lib.cell_of_heap HN6.out 1
 have HOX := hid (show X7.oneX lf = if (B1.upto lf 64).length = 1 then B1.firstOf (B1.upto lf 64) else -1 from rfl)
 generalize B1.upto lf 64 = U at *
 have hown := hls6.1
 obtain ⟨ro, rc, rfl⟩ := own_shape hown
 have HO6 := hid hown
 clear hb6 KC hown hls6
 have HC1 : Hid (∀ w', Below w6.heap.size w6 w' → w'.cell? ⟨w2.heap.size, 1, none⟩ = some (.int .i64 q2)) := hid fun w' hC => Lib.cell_of_heap ((hC.block _ (Array.getElem?_eq_some_iff.1 HN6.out).1).trans HN6.out) 1
 clear c61
 by_cases hcn : U.length = 1
 ·obtain ⟨x, rfl⟩ : ∃ x, U = [x] := List.length_eq_one_iff.1 hcn
  obtain ⟨g, rfl, _, _⟩ := own_at (k := 0) HO6.out (by simp) (show (B1.nums [x])[0]? = some (.int .i64 (x : Int)) by simp [B1.nums])
  have HC0 : Hid (∀ w', Below w6.heap.size w6 w' → w'.cell? ⟨g, 0, none⟩ = some (.int .i64 (x : Int))) := hid fun w' hC => own_cell (owns_kept HO6.out fun g hg => hC.block g (owns_lt HO6.out g hg).2) (show 0 < [x].length by simp) (show (B1.nums [x])[0]? = some (.int .i64 (x : Int)) by simp [B1.nums])
  have h9 : X7.oneX lf = (x : Int) := by rw [HOX.out]; rfl
  have H9 := hid h9
  clear h9 hcn
  go_wp2_with fail
  refine wp_region_below (by kernel_rfl) (by kernel_rfl) ?_
  repeat (first
            | (refine BigFrame.wpQuiet_skip (by rfl) ?_; try simp only [Act.put, List.setIfInBounds_toArray, List.set_cons_zero, List.set_cons_succ])
            | (refine BigFrame.wpQuiet_want (by rfl) (fun K hK => ?_)
               apply Exists.intro
               refine ⟨fun w' hC => ?_, hK _ ?_⟩
               · first
                  | (have f0' := HC1.out w' hC; have f1' := HC0.out w' hC
                     unfold Oper.quietAt
                     go_simp
                     first
                       | with_reducible rfl
                       | done)
               clear hK K
               try simp only [Act.put, List.setIfInBounds_toArray, List.set_cons_zero, List.set_cons_succ]))
  refine wpQuiet_nil ?_
  intro w7 hb7
  go_wp2_with fail
  refine bodyPost_ret (results_tmp2 rfl _ _ _) rfl ?_
  refine ⟨?_, HB6.out.trans (hb7.mono HB6.out.size)⟩
  rw [HPX.out, H9.out]
  rfl
 ·have g1 : ((U.length : Int) == 1) = false := by simp; omega
  have h9 : X7.oneX lf = -1 := by rw [HOX.out, if_neg hcn]
  have H9 := hid h9
  clear h9
  go_wp2_with fail
  refine wp_region_below (by kernel_rfl) (by kernel_rfl) ?_
  repeat (first
            | (refine BigFrame.wpQuiet_skip (by rfl) ?_; try simp only [Act.put, List.setIfInBounds_toArray, List.set_cons_zero, List.set_cons_succ])
            | (refine BigFrame.wpQuiet_want (by rfl) (fun K hK => ?_)
               apply Exists.intro
               refine ⟨fun w' hC => ?_, hK _ ?_⟩
               · first
                  | (have f0' := HC1.out w' hC
                     unfold Oper.quietAt
                     go_simp
                     first
                       | with_reducible rfl
                       | done)
               clear hK K
               try simp only [Act.put, List.setIfInBounds_toArray, List.set_cons_zero, List.set_cons_succ]))
  refine wpQuiet_nil ?_
  intro w7 hb7
  go_wp2_with fail
  refine bodyPost_ret (results_tmp2 rfl _ _ _) rfl ?_
  refine ⟨?_, HB6.out.trans (hb7.mono HB6.out.size)⟩
  rw [HPX.out, H9.out]
  rfl
end Go.Proofs.YtochckefnjobhaaGreatDoor
