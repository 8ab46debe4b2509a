/- MunchWins: the walk. -/
import Derived.Test.YtochckefnjobhaaGreatDoorWo
namespace Go.Proofs.X7
open Go.Proofs.YtochckefnjobhaaGreatDoor.B1 (inN lessN lessN_zero_iff hasN bitN testBit_lessN firstOf upto testBit_bitN and_bitN_ne bitN_lt mem_upto testBit_hi)
set_option linter.unusedVariables false
theorem winS_sub (tags left : Nat) (p : Int × Int) {i : Nat} (h : (winS tags left p).testBit i = true) : left.testBit i = true := by
  unfold winS at h
  split at h
  · rw [testBit_lessN] at h
    simp at h
    exact h.1
  · exact h
theorem win_sub (tags : Nat) : ∀ (l : List (Int × Int)) (left : Nat) {i : Nat}, (l.foldl (winS tags) left).testBit i = true → left.testBit i = true
  | [], _, _, h => h
  | p :: l, left, _, h => winS_sub tags left p (win_sub tags l _ h)
theorem win_in {tags : Nat} (ht : tags < M64) (l : List (Int × Int)) : inN (winX tags l) tags = true := by
  unfold inN
  rw [decide_eq_true_iff]
  exact (lessN_zero_iff (win_fold_lt tags l tags ht)).2 fun i _ h => win_sub tags l tags h
/-- What no pair beats is left. -/
theorem win_keep (tags f : Nat) : ∀ (l : List (Int × Int)) (left : Nat), left.testBit f = true → (∀ p ∈ l, p.2 = (f : Int) → p.1 ≠ p.2 → hasN tags p.1 = false) → (l.foldl (winS tags) left).testBit f = true
  | [], _, h, _ => h
  | p :: l, left, h, hp => by
    refine win_keep tags f l _ ?_ fun q hq => hp q (List.mem_cons_of_mem _ hq)
    unfold winS
    split
    · rename_i c
      rw [testBit_lessN, h, Bool.true_and]
      by_cases e : p.2 = (f : Int)
      · have := hp p (by simp) e c.1
        rw [this] at c
        exact absurd c.2 (by simp)
      · rw [testBit_bitN]
        simp
        exact .inr (.inr fun e2 => e e2.symm)
    · exact h
theorem has_bit {a : Nat} {n : Int} : hasN a n = true ↔ 0 ≤ n ∧ n < 64 ∧ a.testBit n.toNat = true := by
  unfold hasN
  rw [decide_eq_true_iff]
  exact and_bitN_ne a n
/-- The least one is beaten by none that is ahead of it. -/
theorem first_wins {tags : Nat} (ht : tags < M64) (h0 : tags ≠ 0) (l : List (Int × Int)) (hl : ∀ p ∈ l, p.1 < p.2) : hasN (winX tags l) (firstOf (upto tags 64)) = true := by
  obtain ⟨f, rest, hu⟩ : ∃ f rest, upto tags 64 = f :: rest := by
    cases e : upto tags 64 with
    | nil => exact absurd ((Go.Proofs.YtochckefnjobhaaGreatDoor.B1.upto_nil_iff ht).1 e) h0
    | cons f rest => exact ⟨f, rest, rfl⟩
  have hm : f ∈ upto tags 64 := by rw [hu]; simp
  obtain ⟨hf1, hf2⟩ := mem_upto.1 hm
  have hso : (upto tags 64).Pairwise (· < ·) := Go.Proofs.YtochckefnjobhaaGreatDoor.B1.upto_sorted tags
  rw [hu] at hso
  rw [hu]
  refine has_bit.2 ⟨Int.natCast_nonneg f, by show (f : Int) < 64; omega, ?_⟩
  show (winX tags l).testBit ((f : Int).toNat) = true
  rw [Int.toNat_natCast]
  refine win_keep tags f l tags hf2 fun p hp e hne => ?_
  have hlt := hl p hp
  cases c : hasN tags p.1 with
  | false => rfl
  | true =>
    exfalso
    obtain ⟨h1, h2, h3⟩ := has_bit.1 c
    have : p.1.toNat ∈ upto tags 64 := mem_upto.2 ⟨by omega, h3⟩
    rw [hu] at this
    rcases List.mem_cons.1 this with k | k
    · omega
    · have := (List.pairwise_cons.1 hso).1 _ k
      omega
/-- One alone wins. -/
theorem one_wins {n : Int} (l : List (Int × Int)) : winX (bitN n) l = bitN n := by
  have key : ∀ (l : List (Int × Int)) (left : Nat), left = bitN n → l.foldl (winS (bitN n)) left = bitN n := by
    intro l
    induction l with
    | nil => intro left h; exact h
    | cons p l ih =>
      intro left h
      rw [List.foldl_cons]
      refine ih _ ?_
      unfold winS
      split
      · rename_i c
        obtain ⟨c1, c2⟩ := c
        obtain ⟨h1, h2, h3⟩ := has_bit.1 c2
        rw [testBit_bitN] at h3
        simp at h3
        have hpn : p.1 = n := by omega
        rw [h]
        refine Nat.eq_of_testBit_eq fun i => ?_
        rw [testBit_lessN, testBit_bitN, testBit_bitN]
        by_cases hi : (i : Int) = n
        · have : ¬ (i : Int) = p.2 := by omega
          simp [this]
        · simp [hi]
      · exact h
  exact key l _ rfl
end Go.Proofs.X7
namespace Go.Proofs.YtochckefnjobhaaGreatDoor
open Go Go.RowKit Go.Lib
open X7 (M64)
set_option linter.unusedVariables false
set_option linter.unusedSimpArgs false
theorem info80 : (Tryz.prog.info? 80).map (fun i => (i.zero, i.size, i.bytes)) = some (some (.agg #[.int .i64 0, .int .i64 0]), 2, 16) := by kernel_rfl
def qcells (l : List (Int × Int)) : List Value := l.flatMap fun p => [.int .i64 p.1, .int .i64 p.2]
theorem qcells_snoc (l : List (Int × Int)) (p : Int × Int) : qcells (l ++ [p]) = qcells l ++ [.int .i64 p.1, .int .i64 p.2] := by simp [qcells]
theorem qcells_get : ∀ (l : List (Int × Int)) (i : Nat) (h : i < l.length), (qcells l)[i * 2]? = some (.int .i64 l[i].1) ∧ (qcells l)[i * 2 + 1]? = some (.int .i64 l[i].2)
  | p :: l, 0, _ => ⟨rfl, rfl⟩
  | p :: l, i + 1, h => by
    have := qcells_get l i (by simpa using h)
    have e : qcells (p :: l) = .int .i64 p.1 :: .int .i64 p.2 :: qcells l := rfl
    rw [e, show (i + 1) * 2 = i * 2 + 1 + 1 by omega, show i * 2 + 1 + 1 + 1 = (i * 2 + 1) + 1 + 1 by omega]
    simpa using this
theorem wpList_push80 {ops : Array Oper} {rest : List Oper} {o : Oper} {a : Act} {w : World} {Q : Exit → Act → World → Prop} (hgd : o.guard = none) (s x : Operand) (ho : o.op = .call { callee := .builtin .append, args := #[s, x], argTypes := #[58, 58] })
    (base : Nat) (v : Value) (n : Nat) (xs : List Value) (hs : a.eval s = v) (hown : w.ownsRow base 80 2 v n xs) (g : Nat) (hx : a.eval x = .slice (some ⟨g, 0, none⟩) 1 1) (p q : Int) (hb : w.heap[g]? = some (.cells #[.int .i64 p, .int .i64 q] 80 (0, 0))) (hn : n ≤ 1000000) (hbase : base ≤ w.heap.size)
    (h : ∀ v' w', w'.ownsRow base 80 2 v' (n + 1) (xs ++ [.int .i64 p, .int .i64 q]) → w.grownBy w' v.ownBlock → (v'.ownBlock = v.ownBlock ∨ v'.ownBlock = some w.heap.size) → wpList Tryz.prog ops Q rest (a.put o.dst v') w') : wpList Tryz.prog ops Q (o :: rest) a w := by
  obtain ⟨i, hi, h0, h1, h2⟩ := info_parts info80
  refine wpList_append_own_at w hgd s x 58 ho base 80 i _ 2 16 Tryz.underlying58 hi h0 h1 h2 rfl (by decide) v n xs hs hown ⟨g, 0, none⟩ 1 1 [.int .i64 p, .int .i64 q] hx rfl (fun j u hj => ?_) (fun u hu => ?_) (by unfold maxLen; omega) ?_ hbase (fun v' w' a1 a2 _ a4 => h v' w' a1 a2 a4)
  · rw [add_one_cell, Nat.zero_add, Lib.cell_of_heap hb, ← hj]
    simp
  · simp at hu; rcases hu with rfl | rfl <;> rfl
  · omega
theorem over_own {w : World} {B : Nat} {v : Value} {l : List (Int × Int)} (h : w.ownsRow B 80 2 v l.length (qcells l)) : OverAt w v l := by
  obtain ⟨o, c, rfl⟩ := own2_shape h
  refine ⟨o, c, rfl, fun i hi => ?_⟩
  obtain ⟨k0, k1⟩ := qcells_get l i hi
  rcases h.2 with ⟨h1, h0⟩ | ⟨g, cap, cur, h1, hB, hg, h2, h3, h4, h5⟩
  · omega
  · injection h1 with h1
    subst h1
    refine ⟨g, 0, rfl, (Array.getElem?_eq_some_iff.1 hg).1, ?_, ?_⟩
    · rw [Nat.zero_add, Lib.cell_of_heap hg, ← Array.getElem?_toList, ← List.getElem?_take_of_lt (show i * 2 < l.length * 2 by omega), h5, k0]
    · rw [Nat.zero_add, Lib.cell_of_heap hg, ← Array.getElem?_toList, ← List.getElem?_take_of_lt (show i * 2 + 1 < l.length * 2 by omega), h5, k1]
/-- The pairs of which the first is the lesser. -/
def upX (l : List (Int × Int)) (k : Nat) : List (Int × Int) := (l.take k).filter fun p => decide (p.1 < p.2)
theorem upX_hit {l : List (Int × Int)} {k : Nat} {p : Int × Int} (h : l[k]? = some p) (hp : p.1 < p.2) : upX l (k + 1) = upX l k ++ [p] := by
  unfold upX
  rw [List.take_add_one, h, List.filter_append]
  simp [hp]
theorem upX_miss {l : List (Int × Int)} {k : Nat} {p : Int × Int} (h : l[k]? = some p) (hp : ¬ p.1 < p.2) : upX l (k + 1) = upX l k := by
  unfold upX
  rw [List.take_add_one, h, List.filter_append]
  simp [hp]
theorem upX_len (l : List (Int × Int)) (k : Nat) : (upX l k).length ≤ k := by
  unfold upX
  refine Nat.le_trans (List.length_filter_le _ _) ?_
  rw [List.length_take]; omega
theorem upX_mem {l : List (Int × Int)} {k : Nat} {p : Int × Int} (h : p ∈ upX l k) : p.1 < p.2 := by
  unfold upX at h
  have := (List.mem_filter.1 h).2
  simpa using this

set_option maxRecDepth 100000 in
set_option maxHeartbeats 16000000 in
theorem wins_walk (w : World) (tags : Nat) (ht : tags < M64) (v : Value) (l : List (Int × Int)) (hv : OverAt w v l) (hl : l.length ≤ maxLen) {Bt : Nat} (hT : Tab Bt w) (hBt : Bt ≤ w.heap.size) :
    Calls Tryz.prog 8 #[.int .u64 (tags : Int), v] w fun e w' => e = .returned (.bool true) ∧ Below w.heap.size w w' := by
  have K := hid (works07 w hT hBt)
  obtain ⟨vo, vc, rfl⟩ : ∃ vo vc, v = .slice vo l.length vc := by obtain ⟨ro, rc, e, _⟩ := hv; exact ⟨_, _, e⟩
  have HV := hid hv
  unfold maxLen at hl
  clear hv hT
  go_enter Tryz.func8, Tryz.ntmps8
  go_wp2_with fail
  refine K.out.mono ?_
  rintro e w1 ⟨rfl, hb⟩
  clear K
  have HB1 := hid hb
  have HV := hid (HV.out.below hb)
  clear hb
  by_cases h40 : (40 : Int) < (l.length : Int)
  · go_wp2_with fail
    go_ret
    exact ⟨rfl, HB1.out⟩
  have hl40 : l.length ≤ 40 := by omega
  have K := hid (win_any tags ht _ l w1 HV.out (by omega))
  have HWL := hid (X7.win_fold_lt tags l tags ht)
  have HWI := hid (X7.win_in ht l)
  obtain ⟨wx, hwx⟩ : ∃ wx, X7.winX tags l = wx := ⟨_, rfl⟩
  have HWX := hid hwx
  rw [hwx] at K HWI
  have HWL := hid (show wx < M64 from by rw [← hwx]; exact HWL.out)
  clear hwx
  go_wp2_with fail
  refine K.out.mono ?_
  rintro e w2 ⟨rfl, hb⟩
  clear K
  have HB2 := hid (HB1.out.trans (hb.mono HB1.out.size))
  have HV := hid (HV.out.below hb)
  clear hb
  go_wp2_with fail
  go_loopw [7, 8] (fun t7 t8 wr => ∃ (k : Nat) (o : Option Addr) (c : Nat), k ≤ l.length ∧ t8 = .int .i64 (k : Int) ∧ t7 = .slice o (upX l k).length c ∧ Hid (wr.ownsRow w2.heap.size 80 2 (.slice o (upX l k).length c) (upX l k).length (qcells (upX l k))) ∧ Hid (Below w2.heap.size w2 wr)) (fun _ t8 _ => l.length - (RowKit.intOf t8).toNat)
  case atStart => exact ⟨0, none, 0, Nat.zero_le _, rfl, rfl, hid ⟨rfl, .inl ⟨rfl, rfl⟩⟩, hid (Below.refl _ _)⟩
  case round =>
    obtain ⟨k, o, c, hk, rfl, rfl, HO, HB⟩ := hrel
    have HVr := hid (HV.out.below HB.out)
    have hle := HB.out.size
    have hul := upX_len l k
    obtain ⟨U, hU⟩ : ∃ U, upX l k = U := ⟨_, rfl⟩
    have HU := hid hU
    rw [hU] at HO hul
    simp only [hU]
    clear hU
    by_cases hlt : k < l.length
    · have h1 : (k : Int) < (l.length : Int) := by omega
      have h2 : (0 : Int) ≤ (k : Int) := by omega
      obtain ⟨ro, rc, hro, hov⟩ := HVr.out
      injection hro with hro1 hro2 hro3
      subst hro1
      obtain ⟨b, off, hrr, hbl, ca, cb⟩ := hov k hlt
      subst hrr
      obtain ⟨pp, hpp⟩ : ∃ pp, l[k]? = some pp := ⟨_, List.getElem?_eq_getElem hlt⟩
      have hpk : l[k] = pp := by rw [List.getElem?_eq_getElem hlt] at hpp; exact Option.some.inj hpp
      obtain ⟨p, q⟩ := pp
      rw [hpk] at ca cb
      have HCA : Hid (∀ w', Below wr.heap.size wr w' → w'.cell? ⟨b, off + k * 2, none⟩ = some (.int .i64 p)) := hid fun w' hC => cell_bel hC hbl ca
      have HCB : Hid (∀ w', Below wr.heap.size wr w' → w'.cell? ⟨b, off + k * 2 + 1, none⟩ = some (.int .i64 q)) := hid fun w' hC => cell_bel hC hbl cb
      have HPP := hid hpp
      clear hov hro2 hro3 ca cb hpp hpk
      go_wp2_with fail
      refine wp_region_below (by kernel_rfl) (by kernel_rfl) ?_
      repeat (first
                | (refine BigFrame.wpQuiet_skip (by rfl) ?_; try simp only [Act.put, List.setIfInBounds_toArray, List.set_cons_zero, List.set_cons_succ])
                | (refine BigFrame.wpQuiet_want (by rfl) (fun K hK => ?_)
                   apply Exists.intro
                   refine ⟨fun w' hC => ?_, hK _ ?_⟩
                   · first
                      | (have f0' := HCA.out w' hC
                         have f1' := HCB.out w' hC
                         unfold Oper.quietAt
                         go_simp
                         first
                           | with_reducible rfl
                           | done)
                   clear hK K
                   try simp only [Act.put, List.setIfInBounds_toArray, List.set_cons_zero, List.set_cons_succ]))
      refine wpQuiet_nil ?_
      intro w3 hb3
      have HB3 := hid (HB.out.trans (hb3.mono hle))
      have HO3 := hid (own2_below HO.out hb3)
      have ca := HCA.out w3 hb3
      have cb := HCB.out w3 hb3
      have hle3 := HB3.out.size
      clear hb3 HCA HCB
      by_cases hpq : p < q
      · have HU1 := hid (show upX l (k + 1) = U ++ [(p, q)] from by rw [upX_hit HPP.out hpq, HU.out])
        obtain ⟨w4, e4⟩ : ∃ w4, w3.alloc (.cells #[.int .i64 p, .int .i64 q] 80) = w4 := ⟨_, rfl⟩
        have hb4 : Below w3.heap.size w3 w4 := by rw [← e4]; exact (Below.refl _ _).alloc (Nat.le_refl _) _
        have HN4 := hid (show w4.heap[w3.heap.size]? = some (.cells #[.int .i64 p, .int .i64 q] 80 (0, 0)) from by rw [← e4]; exact new_block _ _)
        have HB4 := hid (HB3.out.trans (hb4.mono hle3))
        have HO4 := hid (own2_below HO3.out hb4)
        have hle4 := HB4.out.size
        clear hb4
        go_wp2_with (at_builtin; refine wpList_push80 rfl (.tmp 36) (.tmp 41) rfl w2.heap.size (.slice o U.length c) U.length (qcells U) rfl HO4.out w3.heap.size rfl p q HN4.out (by omega) hle4 ?_)
        intro v5 w5 hown hg hat
        obtain ⟨o5, c5, rfl⟩ := own2_shape hown
        have HB5 := hid (HB4.out.grown hg hle4 (fun k e => (own2_lt HO4.out k e).1))
        rw [show qcells U ++ [.int .i64 p, .int .i64 q] = qcells (U ++ [(p, q)]) from (qcells_snoc U (p, q)).symm] at hown
        have HO5 := hid hown
        clear hown hg hat e4 ca cb
        go_wp2_with fail
        refine ⟨⟨k + 1, o5, c5, by omega, rfl, by rw [HU1.out, List.length_append]; rfl, hid (by rw [HU1.out, List.length_append]; exact HO5.out), HB5⟩, ?_⟩
        show l.length - ((k : Int) + 1).toNat < l.length - ((k : Int)).toNat
        omega
      · have HU1 := hid (show upX l (k + 1) = U from by rw [upX_miss HPP.out hpq, HU.out])
        go_wp2_with fail
        refine ⟨⟨k + 1, o, c, by omega, rfl, by rw [HU1.out], hid (by rw [HU1.out]; exact HO3.out), HB3⟩, ?_⟩
        show l.length - ((k : Int) + 1).toNat < l.length - ((k : Int)).toNat
        omega
    · have h1 : ¬ (k : Int) < (l.length : Int) := by omega
      have HBr := hid (HB2.out.trans (HB.out.mono HB2.out.size))
      have HUA := hid (over_own HO.out)
      have HUM := hid (fun p (hp : p ∈ U) => upX_mem (by rw [HU.out]; exact hp))
      have KI := B1.In_any wx tags HWL.out ht wr
      rw [HWI.out] at KI
      have KI := hid KI
      have KN := win_any tags ht _ _ wr (over_none wr) (by simp)
      rw [show X7.winX tags [] = tags from rfl] at KN
      have KN := hid KN
      go_wp2_with fail
      refine KI.out.mono ?_
      rintro e w' ⟨rfl, rfl⟩
      go_wp2_with fail
      refine KN.out.mono ?_
      rintro e w5 ⟨rfl, hb⟩
      clear KI KN
      have HB5 := hid (HBr.out.trans (hb.mono HBr.out.size))
      have HV5 := hid (HVr.out.below hb)
      have HUA5 := hid (HUA.out.below hb)
      have K := win_any 0 (by decide) _ l w5 HV5.out (by omega)
      rw [show X7.winX 0 l = 0 from X7.win_zero 0 l] at K
      have K := hid K
      clear hb
      go_wp2_with fail
      refine K.out.mono ?_
      rintro e w6 ⟨rfl, hb⟩
      clear K
      have HB6 := hid (HB5.out.trans (hb.mono HB5.out.size))
      have HV6 := hid (HV5.out.below hb)
      have HUA6 := hid (HUA5.out.below hb)
      clear hb
      by_cases h0 : tags = 0
      · have g0 : ((tags : Int) == 0) = true := by rw [h0]; rfl
        clear h0
        have K := hid (B1.First_any tags ht w6)
        go_wp2_with fail
        refine K.out.mono ?_
        rintro e x1 ⟨rfl, hb⟩
        clear K
        have HBx1 := hid (HB6.out.trans (hb.mono HB6.out.size))
        have HVx1 := hid (HV6.out.below hb)
        clear hb
        obtain ⟨ff, hff⟩ : ∃ ff, B1.firstOf (B1.upto tags 64) = ff := ⟨_, rfl⟩
        rw [hff]
        have K := B1.With_any 0 ff (by decide) x1
        rw [Nat.zero_or] at K
        have K := hid K
        go_wp2_with fail
        refine K.out.mono ?_
        rintro e w' ⟨rfl, rfl⟩
        clear K
        have K := win_any (B1.bitN ff) (B1.bitN_lt ff) _ l x1 HVx1.out (by omega)
        rw [X7.one_wins l] at K
        have K := hid K
        go_wp2_with fail
        refine K.out.mono ?_
        rintro e x2 ⟨rfl, hb⟩
        clear K
        have HBx2 := hid (HBx1.out.trans (hb.mono HBx1.out.size))
        clear hb
        have K := B1.First_any tags ht x2
        rw [hff] at K
        have K := hid K
        clear hff
        go_wp2_with fail
        refine K.out.mono ?_
        rintro e x3 ⟨rfl, hb⟩
        clear K
        have HBx3 := hid (HBx2.out.trans (hb.mono HBx2.out.size))
        clear hb
        have K := B1.With_any 0 ff (by decide) x3
        rw [Nat.zero_or] at K
        have K := hid K
        go_wp2_with fail
        refine K.out.mono ?_
        rintro e w' ⟨rfl, rfl⟩
        clear K
        go_wp2_with fail
        go_ret
        exact ⟨rfl, HBx3.out⟩
      · have g0 : ((tags : Int) == 0) = false := by rw [beq_eq_false_iff_ne]; omega
        have K := hid (win_any tags ht _ U w6 HUA6.out (by omega))
        have HFW := hid (X7.first_wins ht h0 U HUM.out)
        have HUL := hid (X7.win_fold_lt tags U tags ht)
        obtain ⟨ux, hux⟩ : ∃ ux, X7.winX tags U = ux := ⟨_, rfl⟩
        have HUL2 := hid (show ux < M64 from by rw [← hux]; exact HUL.out)
        rw [hux] at K HFW
        clear hux
        go_wp2_with fail
        refine K.out.mono ?_
        rintro e w7 ⟨rfl, hb⟩
        clear K
        have HB7 := hid (HB6.out.trans (hb.mono HB6.out.size))
        have HV7 := hid (HV6.out.below hb)
        clear hb
        have K := hid (B1.First_any tags ht w7)
        go_wp2_with fail
        refine K.out.mono ?_
        rintro e w8 ⟨rfl, hb⟩
        clear K
        have HB8 := hid (HB7.out.trans (hb.mono HB7.out.size))
        have HV8 := hid (HV7.out.below hb)
        clear hb
        have K := B1.Has_any ux (B1.firstOf (B1.upto tags 64)) HUL2.out w8
        rw [HFW.out] at K
        have K := hid K
        go_wp2_with fail
        refine K.out.mono ?_
        rintro e w' ⟨rfl, rfl⟩
        clear K
        have K := hid (B1.First_any tags ht w8)
        go_wp2_with fail
        refine K.out.mono ?_
        rintro e x1 ⟨rfl, hb⟩
        clear K
        have HBx1 := hid (HB8.out.trans (hb.mono HB8.out.size))
        have HVx1 := hid (HV8.out.below hb)
        clear hb
        obtain ⟨ff, hff⟩ : ∃ ff, B1.firstOf (B1.upto tags 64) = ff := ⟨_, rfl⟩
        rw [hff]
        have K := B1.With_any 0 ff (by decide) x1
        rw [Nat.zero_or] at K
        have K := hid K
        go_wp2_with fail
        refine K.out.mono ?_
        rintro e w' ⟨rfl, rfl⟩
        clear K
        have K := win_any (B1.bitN ff) (B1.bitN_lt ff) _ l x1 HVx1.out (by omega)
        rw [X7.one_wins l] at K
        have K := hid K
        go_wp2_with fail
        refine K.out.mono ?_
        rintro e x2 ⟨rfl, hb⟩
        clear K
        have HBx2 := hid (HBx1.out.trans (hb.mono HBx1.out.size))
        clear hb
        have K := B1.First_any tags ht x2
        rw [hff] at K
        have K := hid K
        clear hff
        go_wp2_with fail
        refine K.out.mono ?_
        rintro e x3 ⟨rfl, hb⟩
        clear K
        have HBx3 := hid (HBx2.out.trans (hb.mono HBx2.out.size))
        clear hb
        have K := B1.With_any 0 ff (by decide) x3
        rw [Nat.zero_or] at K
        have K := hid K
        go_wp2_with fail
        refine K.out.mono ?_
        rintro e w' ⟨rfl, rfl⟩
        clear K
        go_wp2_with fail
        go_ret
        exact ⟨rfl, HBx3.out⟩
end Go.Proofs.YtochckefnjobhaaGreatDoor
