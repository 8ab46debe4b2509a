/- Plain mathematics: the longest piece that may be. -/
import Derived.Test.YtochckefnjobhaaGreatDoorUj
import Derived.Test.YtochckefnjobhaaGreatDoorBb
import Derived.Test.YtochckefnjobhaaGreatDoorKx
namespace Go.Proofs.X7
open X5 (Aut goX behX runX rowOf)
set_option linter.unusedVariables false
def fX (D : Aut) (t : List UInt8) (a may j : Nat) : Nat := runX D ((t.drop a).take j) &&& may
def lastX (D : Aut) (t : List UInt8) (a may : Nat) : Nat → Nat × Nat
 | 0 => (0, a)
 | n + 1 => if fX D t a may (n + 1) ≠ 0 then (fX D t a may (n + 1), a + n + 1) else lastX D t a may n
def stX (D : Aut) (t : List UInt8) (a j : Nat) : Int := goX D ((t.drop a).take j) 0
def pc (D : Aut) (t : List UInt8) (a j : Nat) : List (Nat × Nat) := if 0 ≤ stX D t a j ∧ stX D t a j < (D.tags.length : Int) then [(D.tags.getD (stX D t a j).toNat 0, a + j)] else []
def pcs (D : Aut) (t : List UInt8) (a : Nat) : Nat → List (Nat × Nat)
 | 0 => []
 | n + 1 => pcs D t a n ++ pc D t a (n + 1)
abbrev M64 : Nat := 18446744073709551616
def pick (may : Nat) (b : Nat × Int) (x : Nat × Nat) : Nat × Int := if (x.1 % M64) &&& may ≠ 0 then ((x.1 % M64) &&& may, (x.2 : Int)) else b
theorem beh_neg (D : Aut) {z : Int} (b : Nat) (h : z < 0) : behX D z b = -1 := by unfold behX; rw [if_pos (.inl h)]
theorem beh_range (D : Aut) (z : Int) (b : Nat) : behX D z b = -1 ∨ (0 ≤ behX D z b ∧ behX D z b < (D.next.length : Int)) := by
 unfold behX
 split
 ·exact .inl rfl
 ·split
  ·exact .inl rfl
  ·split
   ·exact .inl rfl
   ·exact .inr (by omega)
theorem st_next (D : Aut) {t : List UInt8} {a j : Nat} {b : UInt8} (h : t[a + j]? = some b) : stX D t a (j + 1) = behX D (stX D t a j) b.toNat := by
 have : (t.drop a)[j]? = some b := by rw [List.getElem?_drop]; exact h
 unfold stX
 rw [List.take_add_one, this, X5.goX_app]
 rfl
theorem st_end (D : Aut) {t : List UInt8} {a j : Nat} (h : t[a + j]? = none) : stX D t a (j + 1) = stX D t a j := by
 have : (t.drop a)[j]? = none := by rw [List.getElem?_drop]; exact h
 unfold stX
 rw [List.take_add_one, this]
 simp
theorem st_dead (D : Aut) {t : List UInt8} {a j : Nat} (h : stX D t a j < 0) : ∀ m, stX D t a (j + m) < 0
 | 0 => h
 | m + 1 => by
  have ih := st_dead D h m
  cases e : t[a + (j + m)]? with
  | none => rw [← Nat.add_assoc, st_end D e]; exact ih
  | some b => rw [← Nat.add_assoc, st_next D e, beh_neg D _ ih]; decide
theorem pc_dead (D : Aut) {t : List UInt8} {a j : Nat} (h : stX D t a j < 0) : pc D t a j = [] := by unfold pc; rw [if_neg (by omega)]
theorem pcs_dead (D : Aut) {t : List UInt8} {a j : Nat} (h : stX D t a j < 0) : ∀ m, pcs D t a (j + m) = pcs D t a j
 | 0 => rfl
 | m + 1 => by
  rw [← Nat.add_assoc, pcs, pcs_dead D h m, Nat.add_assoc, pc_dead D (st_dead D h (m + 1)), List.append_nil]
theorem pcs_len (D : Aut) (t : List UInt8) (a : Nat) : ∀ n, (pcs D t a n).length ≤ n
 | 0 => Nat.le_refl _
 | n + 1 => by
  rw [pcs, List.length_append]
  have := pcs_len D t a n
  have : (pc D t a (n + 1)).length ≤ 1 := by unfold pc; split <;> simp
  omega
theorem st_range (D : Aut) {t : List UInt8} {a j : Nat} (h : a + j < t.length) : stX D t a (j + 1) = -1 ∨ (0 ≤ stX D t a (j + 1) ∧ stX D t a (j + 1) < (D.next.length : Int)) := by
 rw [st_next D (List.getElem?_eq_getElem h)]
 exact beh_range D _ _
theorem run_st (D : Aut) {t : List UInt8} {a j : Nat} (h : a + j < t.length) : runX D ((t.drop a).take (j + 1)) = if 0 ≤ stX D t a (j + 1) ∧ stX D t a (j + 1) < (D.tags.length : Int) then D.tags.getD (stX D t a (j + 1)).toNat 0 else 0 := by
 have h1 := st_range D h
 unfold runX
 show (if stX D t a (j + 1) < 0 ∨ (D.next.length : Int) ≤ stX D t a (j + 1) ∨ (D.tags.length : Int) ≤ stX D t a (j + 1) then 0 else D.tags.getD (stX D t a (j + 1)).toNat 0) = _
 by_cases c : 0 ≤ stX D t a (j + 1) ∧ stX D t a (j + 1) < (D.tags.length : Int)
 ·rw [if_pos c, if_neg (by omega)]
 ·rw [if_neg c]
  by_cases c2 : stX D t a (j + 1) < 0
  ·rw [if_pos (.inl c2)]
  ·rw [if_pos (.inr (.inr (by omega)))]
theorem best_pcs (D : Aut) (t : List UInt8) (a may : Nat) (ht : ∀ x ∈ D.tags, x < M64) : ∀ n, a + n ≤ t.length ∨ n = 0 → (pcs D t a n).foldl (pick may) (0, (a : Int)) = ((lastX D t a may n).1, ((lastX D t a may n).2 : Int))
 | 0, _ => rfl
 | n + 1, h => by
  have hn : a + n < t.length := by omega
  rw [pcs, List.foldl_append, best_pcs D t a may ht n (by omega), lastX]
  have hr := run_st D hn
  unfold pc
  by_cases c : 0 ≤ stX D t a (n + 1) ∧ stX D t a (n + 1) < (D.tags.length : Int)
  ·rw [if_pos c] at hr ⊢
   have hm : D.tags.getD (stX D t a (n + 1)).toNat 0 % M64 = D.tags.getD (stX D t a (n + 1)).toNat 0 := Nat.mod_eq_of_lt (by
    rw [List.getD_eq_getElem?_getD]
    cases e : D.tags[(stX D t a (n + 1)).toNat]? with
    | none => decide
    | some x => exact ht x (List.mem_of_getElem? e))
   show pick may _ _ = _
   unfold pick
   simp only [hm]
   unfold fX
   rw [hr]
   split
   ·show (_, ((a + (n + 1) : Nat) : Int)) = _
    rfl
   ·rfl
  ·rw [if_neg c] at hr ⊢
   have : fX D t a may (n + 1) = 0 := by unfold fX; rw [hr, Nat.zero_and]
   rw [if_neg (by rw [this]; decide)]
   rfl
def lgX (D : Aut) (t : List UInt8) (at_ : Int) (may : Nat) : Nat × Int :=
 if at_ < 0 ∨ (t.length : Int) < at_ then (0, at_) else ((lastX D t at_.toNat may (t.length - at_.toNat)).1, ((lastX D t at_.toNat may (t.length - at_.toNat)).2 : Int))
def allP (D : Aut) (t : List UInt8) (at_ : Int) : List (Nat × Nat) := if at_ < 0 then [] else pcs D t at_.toNat (t.length - at_.toNat)
theorem lg_pcs (D : Aut) (t : List UInt8) (at_ : Int) (may : Nat) (ht : ∀ x ∈ D.tags, x < M64) : (allP D t at_).foldl (pick may) (0, at_) = lgX D t at_ may := by
 unfold allP lgX
 by_cases h : at_ < 0
 ·rw [if_pos h, if_pos (.inl h)]; rfl
 ·rw [if_neg h]
  by_cases h2 : (t.length : Int) < at_
  ·rw [if_pos (.inr h2), show t.length - at_.toNat = 0 by omega]; rfl
  ·rw [if_neg (by omega)]
   have := best_pcs D t at_.toNat may ht (t.length - at_.toNat) (by omega)
   rw [show ((at_.toNat : Nat) : Int) = at_ by omega] at this
   exact this
theorem last_lt (D : Aut) (t : List UInt8) (a may : Nat) (hm : may < M64) : ∀ n, (lastX D t a may n).1 < M64
 | 0 => by show 0 < M64; decide
 | n + 1 => by
  rw [lastX]
  split
  ·unfold fX
   exact Nat.lt_of_le_of_lt Nat.and_le_right hm
  ·exact last_lt D t a may hm n
theorem lg_lt (D : Aut) (t : List UInt8) (at_ : Int) (may : Nat) (hm : may < M64) : (lgX D t at_ may).1 < M64 := by
 unfold lgX
 split
 ·show 0 < M64; decide
 ·exact last_lt D t _ may hm _
theorem last_le (D : Aut) (t : List UInt8) (a may : Nat) : ∀ n, a ≤ (lastX D t a may n).2 ∧ (lastX D t a may n).2 ≤ a + n
 | 0 => by simp [lastX]
 | n + 1 => by
  rw [lastX]
  have := last_le D t a may n
  split
  ·simp; omega
  ·omega
end Go.Proofs.X7
namespace Go.Proofs.YtochckefnjobhaaGreatDoor
open Go Go.RowKit Go.Shelf Go.Lib
open X5 (Aut)
open X7 (M64)
attribute [local go_sem] Oper.semAt_some
set_option linter.unusedVariables false
set_option linter.unusedSimpArgs false
set_option maxRecDepth 100000 in
theorem pieces_in (n : Nat) (p : Option Addr) (s : ByteArray) (z : Int) (w : World) :
  CallsIn Fence.wide n Tryz.prog 58 #[.pointer p, .string s, .int .i64 z] w fun e w' => e = .returned (.func (.func 89) #[] #[.pointer (some ⟨w.heap.size + 1 + 1, 0, none⟩), .pointer (some ⟨w.heap.size + 1, 0, none⟩), .pointer (some ⟨w.heap.size, 0, none⟩)]) ∧ w' = ((w.alloc (.cells #[.pointer p] 109)).alloc (.cells #[.string s] 9)).alloc (.cells #[.int .i64 z] 3) := by
 refine callsIn_of_wp Tryz.func58 rfl trivial ?_ rfl
 simp only [Tryz.ntmps58, List.size_toArray, List.length_cons, List.length_nil, Nat.reduceAdd, Nat.reduceSub, Array.replicate_succ, Array.replicate_zero, List.push_toArray, List.append_toArray, List.nil_append, List.cons_append]
 gi_wp2
 go_ret
 exact ⟨rfl, rfl⟩
structure KeptX (m b : Nat) (W W' : World) : Prop where
 os : W'.os = W.os
 tape : W'.tape = W.tape
 output : W'.output = W.output
 size : W.heap.size ≤ W'.heap.size
 block : ∀ g, g < m → g ≠ b → W'.heap[g]? = W.heap[g]?
theorem KeptX.refl (m b : Nat) (W : World) : KeptX m b W W := ⟨rfl, rfl, rfl, Nat.le_refl _, fun _ _ _ => rfl⟩
theorem KeptX.trans {m b : Nat} {A B C : World} (h : KeptX m b A B) (k : KeptX m b B C) : KeptX m b A C := ⟨k.os.trans h.os, k.tape.trans h.tape, k.output.trans h.output, Nat.le_trans h.size k.size, fun g h1 h2 => (k.block g h1 h2).trans (h.block g h1 h2)⟩
theorem KeptX.below {m b : Nat} {A B C : World} (h : KeptX m b A B) (hm : m ≤ B.heap.size) (k : Below B.heap.size B C) : KeptX m b A C := h.trans ⟨k.os, k.tape, k.output, k.size, fun g h1 _ => k.block g (by omega)⟩
theorem KeptX.of {m b : Nat} {A B : World} (hm : m ≤ A.heap.size) (k : Below A.heap.size A B) : KeptX m b A B := (KeptX.refl m b A).below hm k
theorem KeptX.bel {m b n : Nat} {A B C : World} (h : KeptX m b B C) (k : Below n A B) (hn : n ≤ m) (hb : n ≤ b) : Below n A C := ⟨h.os.trans k.os, h.tape.trans k.tape, h.output.trans k.output, Nat.le_trans k.size h.size, fun g hg => (h.block g (by omega) (by omega)).trans (k.block g hg)⟩
def encP (x : Nat × Nat) : Array Value := #[.agg #[.int .u64 ((x.1 % M64 : Nat) : Int), .int .i64 (x.2 : Int)]]
set_option maxRecDepth 100000 in
set_option maxHeartbeats 8000000 in
theorem pcs_seq (n : Nat) (hn : 1 ≤ n) {D : Aut} {dd : Array Value} (w0 : World) (hL : Lies D dd w0) (b4 bA bT bD bX : Nat) (s : ByteArray) (hs : s.size ≤ 1000000) (z : Int) (wS : World) (hw : Below w0.heap.size w0 wS)
  (h4 : wS.heap[b4]? = some (.cells dd 26 (0, 0))) (hA : wS.heap[bA]? = some (.cells #[.int .i64 z] 3 (0, 0))) (hT : wS.heap[bT]? = some (.cells #[.string s] 9 (0, 0))) (hD : wS.heap[bD]? = some (.cells #[.pointer (some ⟨b4, 0, none⟩)] 109 (0, 0))) (hX : w0.heap.size ≤ bX ∧ bX ≠ b4 ∧ bX ≠ bA ∧ bX ≠ bT ∧ bX ≠ bD) :
  SeqStopsK Fence.wide n Tryz.prog 89 #[.pointer (some ⟨bA, 0, none⟩), .pointer (some ⟨bT, 0, none⟩), .pointer (some ⟨bD, 0, none⟩)] encP (KeptX wS.heap.size bX) (fun xs => xs = X7.allP D (LL s) z) (fun _ => True) (s.size + 1) wS := fun l J Jx W hW hJ hJx hY h0 => by
 have HY := hid hY
 have HJ0 := hid hJ
 have HKW := hid (KeptX.of (m := wS.heap.size) (b := bX) (Nat.le_refl _) hW)
 have HSZ := hid hL.sz
 have HL := hid hL
 have l4 := (Array.getElem?_eq_some_iff.1 h4).1
 have lA := (Array.getElem?_eq_some_iff.1 hA).1
 have lT := (Array.getElem?_eq_some_iff.1 hT).1
 have lD := (Array.getElem?_eq_some_iff.1 hD).1
 have HB := hid (fun (wr : World) (h : KeptX wS.heap.size bX wS wr) => And.intro (show Bxx b4 dd wr from (h.block b4 l4 (Ne.symm hX.2.1)).trans h4) (And.intro ((h.block bA lA (Ne.symm hX.2.2.1)).trans hA) (And.intro ((h.block bT lT (Ne.symm hX.2.2.2.1)).trans hT) (And.intro ((h.block bD lD (Ne.symm hX.2.2.2.2)).trans hD) (hL.below (h.bel hw hw.size hX.1))))))
 have hm : ∀ wr : World, KeptX wS.heap.size bX wS wr → wS.heap.size ≤ wr.heap.size := fun wr h => h.size
 have HM := hid hm
 clear hY hJ hJx h4 hA hT hD l4 lA lT lD hm hL hw
 refine callsIn_of_wp Tryz.func89 rfl trivial ?_ rfl
 simp only [Tryz.ntmps89, List.size_toArray, List.length_cons, List.length_nil, Nat.reduceAdd, Nat.reduceSub, Array.replicate_succ, Array.replicate_zero, List.push_toArray, List.append_toArray, List.nil_append, List.cons_append]
 have cA := cell1 (HB.out W HKW.out).2.1
 by_cases hz : z < 0
 ·gi_wp2
  refine bodyPost_ret (results_none rfl _ _ _) rfl ?_
  exact ⟨⟨_, rfl⟩, .inl ⟨_, by unfold X7.allP; rw [if_pos hz], h0⟩⟩
 ·obtain ⟨a, rfl⟩ : ∃ a : Nat, z = (a : Int) := ⟨z.toNat, by omega⟩
  have hz0 : ¬ (a : Int) < 0 := by omega
  have HAll := hid (show X7.allP D (LL s) (a : Int) = X7.pcs D (LL s) a (s.size - a) from by
   unfold X7.allP
   rw [if_neg hz0, Int.toNat_natCast, show (LL s).length = s.size from Array.length_toList])
  have HLl := hid (show (LL s).length = s.size from Array.length_toList)
  clear hz
  gi_wp2
  clear cA hz0
  gi_loopw [5, 6] (fun i5 i6 wr => ∃ (j : Nat) (q : Int), j ≤ s.size - a ∧ i6 = .int .i64 ((a + j : Nat) : Int) ∧ i5 = .int .i64 q ∧ 0 ≤ q ∧ Hid (q = X7.stX D (LL s) a j) ∧ Hid (KeptX wS.heap.size bX wS wr) ∧ Hid (J (X7.pcs D (LL s) a j) wr)) (fun _ i6 _ => s.size - (intOf i6).toNat)
  case atStart =>
   exact ⟨0, 0, Nat.zero_le _, rfl, rfl, Int.le_refl _, hid rfl, HKW, hid h0⟩
  case round =>
   obtain ⟨j, q, hj, rfl, rfl, hq0, HQ, HK, HJ⟩ := hrel
   have HBr := hid (HB.out wr HK.out)
   have cT := cell1 HBr.out.2.2.1
   have hle := HM.out wr HK.out
   by_cases hlt : a + j < s.size
   ·have t1 : ((a + j : Nat) : Int) < (s.size : Int) := by omega
    have t2 : (0 : Int) ≤ ((a + j : Nat) : Int) := by omega
    have cD := cell1 HBr.out.2.2.2.1
    obtain ⟨k, hk⟩ : ∃ k : Nat, a + j = k := ⟨_, rfl⟩
    rw [hk] at hlt
    simp only [hk] at t1 t2 ⊢
    obtain ⟨nv, tv, hdv, hda⟩ := HBr.out.2.2.2.2
    have HLr := hid HBr.out.2.2.2.2
    have HX4 := hid HBr.out.1
    have h256 : (s[k]'hlt).toNat < 256 := (s[k]'hlt).toNat_lt
    have hget : (LL s)[a + j]? = some (s[k]'hlt) := by
     rw [hk, Array.getElem?_toList]
     exact Array.getElem?_eq_getElem hlt
    have HNX := hid (show X7.stX D (LL s) a (j + 1) = X5.behX D q (s[k]'hlt).toNat from by rw [X7.st_next D hget, ← HQ.out])
    have HRG := hid (X7.beh_range D q (s[k]'hlt).toNat)
    have KB : Hid (∀ w', Below wr.heap.size wr w' → Calls Tryz.prog 90 #[.agg dd, .int .i64 q, .int .u8 (((s[k]'hlt).toNat : Nat) : Int)] w' fun e w'' => e = .returned (.int .i64 (X5.behX D q (s[k]'hlt).toNat)) ∧ Below w'.heap.size w' w'') := hid fun w' hC => by
     obtain ⟨nv', tv', hdv', hda'⟩ := HLr.out.below hC
     rw [hdv']
     exact go_any hda' q _ h256
    have HCT : Hid (∀ w', Below wr.heap.size wr w' → w'.cell? ⟨bT, 0, none⟩ = some (.string s)) := hid fun w' hC => cell1 ((hC.block _ (Array.getElem?_eq_some_iff.1 HBr.out.2.2.1).1).trans HBr.out.2.2.1)
    have HCD : Hid (∀ w', Below wr.heap.size wr w' → w'.cell? ⟨bD, 0, none⟩ = some (.pointer (some ⟨b4, 0, none⟩))) := hid fun w' hC => cell1 ((hC.block _ (Array.getElem?_eq_some_iff.1 HBr.out.2.2.2.1).1).trans HBr.out.2.2.2.1)
    clear hget h256 hda hdv
    generalize X5.behX D q (s[k]'hlt).toNat = q2 at *
    gi_wp2_with fail
    refine wpIn_wide.2 (wp_region_below (by kernel_rfl) (by kernel_rfl) ?_)
    repeat (first
      | (refine BigFrame.wpQuiet_skip (by rfl) ?_; try simp only [Act.put, List.setIfInBounds_toArray, List.set_cons_zero, List.set_cons_succ])
      | (refine BigFrame.wpQuiet_want (by rfl) (fun K hK => ?_)
         apply Exists.intro
         refine ⟨fun w' hC => ?_, hK _ ?_⟩
         · first
            | exact quiet_load30 (.tmp 17) rfl b4 rfl dd hC HX4.out HSZ.out.1
            | (have cT' := HCT.out w' hC
               have cD' := HCD.out w' hC
               unfold Oper.quietAt
               go_simp
               first
                 | with_reducible rfl
                 | done
                 | with_reducible exact below_call hC (Nat.le_refl _) (KB.out w' hC))
         clear hK K
         try simp only [Act.put, List.setIfInBounds_toArray, List.set_cons_zero, List.set_cons_succ]))
    refine wpQuiet_nil ?_
    intro w2 hb2
    have HK2 := hid (HK.out.below hle hb2)
    have HJ2 := hid (HJ0.out _ _ _ none HJ.out ⟨hb2.os, hb2.tape, hb2.output, hb2.size, fun g hg _ => hb2.block g hg⟩ (fun r e => by cases e))
    have HBr2 := hid (HB.out w2 HK2.out)
    have hle2 := HM.out w2 HK2.out
    have cT2 := cell1 HBr2.out.2.2.1
    have cD2 := cell1 HBr2.out.2.2.2.1
    clear hb2 KB HCT HCD HX4 HLr cT cD HBr HK HJ
    by_cases hq2 : q2 < 0
    ·gi_wp2_with fail
     refine bodyPost_ret (results_none rfl _ _ _) rfl ?_
     refine ⟨⟨_, rfl⟩, .inl ⟨_, ?_, HJ2.out⟩⟩
     rw [HAll.out]
     have hd : X7.stX D (LL s) a (j + 1) < 0 := by rw [HNX.out]; exact hq2
     rw [show s.size - a = (j + 1) + (s.size - a - (j + 1)) by omega, X7.pcs_dead D hd, X7.pcs, X7.pc_dead D hd, List.append_nil]
    ·obtain ⟨nv, tv, hdv, hda⟩ := HBr2.out.2.2.2.2
     obtain ⟨to, tc, htv⟩ : ∃ to tc, tv = .slice to D.tags.length tc := by
      obtain ⟨ro, rc, e, _⟩ := hda.tags
      exact ⟨ro, rc, e⟩
     subst htv
     have c257 : w2.cell? ⟨b4, 257, none⟩ = some (.slice to D.tags.length tc) := by rw [Lib.cell_of_heap HBr2.out.1, hdv, dcell_tags hda.len]
     have hnx : X7.stX D (LL s) a (j + 1) = q2 := HNX.out
     have hu := hda.few.2
     unfold maxLen at hu
     by_cases htl : q2 < (D.tags.length : Int)
     ·obtain ⟨i, rfl⟩ : ∃ i : Nat, q2 = (i : Int) := ⟨q2.toNat, by omega⟩
      have hi : i < D.tags.length := by omega
      obtain ⟨tg, htg⟩ : ∃ tg, D.tags[i]? = some tg := ⟨_, List.getElem?_eq_getElem hi⟩
      obtain ⟨bt, offt, tc', htv, hbt, ct, ht64⟩ := tagsAt_get hda.tags htg
      injection htv with e1 e2 e3
      subst e1
      have t5 : (0 : Int) ≤ (i : Int) := by omega
      have hpc : X7.pc D (LL s) a (j + 1) = [(tg, a + (j + 1))] := by
       unfold X7.pc
       rw [hnx, if_pos ⟨t5, htl⟩, Int.toNat_natCast, List.getD_eq_getElem?_getD, htg]
       rfl
      have hpre : X7.pcs D (LL s) a (j + 1) = X7.pcs D (LL s) a j ++ [(tg, a + (j + 1))] := by rw [X7.pcs, hpc]
      obtain ⟨fn, tmps, assign, body, hy, hR⟩ := HY.out _ (tg, a + (j + 1)) w2 HJ2.out (by have := X7.pcs_len D (LL s) a j; omega)
      have hen : encP (tg, a + (j + 1)) = #[.agg #[.int .u64 (tg : Int), .int .i64 ((k : Int) + 1)]] := by
       unfold encP
       rw [Nat.mod_eq_of_lt ht64, show ((a + (j + 1) : Nat) : Int) = (k : Int) + 1 by omega]
      rw [hen] at hy
      rw [← hpre] at hR
      have HR := hid hR
      have HST := hid hnx
      clear hR hen hpre hpc hda hdv hbt htg e2 e3 hnx ht64
      gi_wp2_with fail
      refine HR.out.mono ?_
      rintro e W3 (⟨rfl, hJ3, hk3⟩ | ⟨rfl, hJx3⟩)
      ·have HJ3 := hid hJ3
       have HK3 := hid (HK2.out.trans hk3)
       clear hJ3 hk3 cT2 cD2 c257 ct
       gi_wp2_with fail
       refine ⟨⟨j + 1, i, by omega, by show Value.int .i64 ((k : Int) + 1) = _; rw [show ((a + (j + 1) : Nat) : Int) = (k : Int) + 1 by omega], rfl, t5, hid HST.out.symm, HK3, HJ3⟩, ?_⟩
       show s.size - ((k : Int) + 1).toNat < s.size - ((k : Int)).toNat
       omega
      ·gi_wp2_with fail
       refine bodyPost_ret (results_none rfl _ _ _) rfl ?_
       exact ⟨⟨_, rfl⟩, .inr ⟨_, trivial, hJx3⟩⟩
     ·have hpc : X7.pcs D (LL s) a (j + 1) = X7.pcs D (LL s) a j := by
       rw [X7.pcs]
       unfold X7.pc
       rw [if_neg (by rw [hnx]; omega), List.append_nil]
      have HST := hid hnx
      have HPC := hid hpc
      clear hpc hda hdv hnx
      gi_wp2_with fail
      refine ⟨fun _ h => (by cases h), ?_⟩
      gi_wp2_with fail
      refine ⟨⟨j + 1, q2, by omega, by show Value.int .i64 ((k : Int) + 1) = _; rw [show ((a + (j + 1) : Nat) : Int) = (k : Int) + 1 by omega], rfl, by omega, hid HST.out.symm, HK2, hid (by rw [HPC.out]; exact HJ2.out)⟩, ?_⟩
      show s.size - ((k : Int) + 1).toNat < s.size - ((k : Int)).toNat
      omega
   ·have t1 : ¬ ((a + j : Nat) : Int) < (s.size : Int) := by omega
    have hjj : j = s.size - a := by omega
    have HJJ := hid hjj
    clear hjj
    gi_wp2_with fail
    go_end0
    first
      | exact ⟨⟨_, rfl⟩, .inl ⟨_, by rw [HAll.out, ← HJJ.out], HJ.out⟩⟩
      | exact ⟨⟨_, rfl⟩, .inl (by rw [HAll.out, ← HJJ.out]; exact HJ.out)⟩
end Go.Proofs.YtochckefnjobhaaGreatDoor
namespace Go.Proofs.YtochckefnjobhaaGreatDoor
open Go Go.RowKit Go.Shelf Go.Lib
open X5 (Aut)
open X7 (M64)
attribute [local go_sem] Oper.semAt_some
set_option linter.unusedVariables false
set_option linter.unusedSimpArgs false
theorem set_two {W : World} {b : Nat} {u v : Value} {e : TypeId} (h : W.heap[b]? = some (.cells #[u, v] e (0, 0))) (x y : Value) :
  ((W.setCell ⟨b, 0, none⟩ x).setCell ⟨b, 1, none⟩ y).heap[b]? = some (.cells #[x, y] e (0, 0)) ∧ ∀ {m : Nat}, KeptX m b W ((W.setCell ⟨b, 0, none⟩ x).setCell ⟨b, 1, none⟩ y) := by
 have h1 : (W.setCell ⟨b, 0, none⟩ x).heap[b]? = some (.cells #[x, v] e (0, 0)) := heap_setCell_same W b 0 #[u, v] e x h
 refine ⟨heap_setCell_same _ b 1 #[x, v] e y h1, fun {m} => ⟨rfl, rfl, rfl, by simp, fun g _ hg => (Below.heap_setCell _ _ _ _ hg).trans (Below.heap_setCell _ _ _ _ hg)⟩⟩
def bestV (may : Nat) (z : Int) (pre : List (Nat × Nat)) : Obj := .cells #[.int .u64 (((pre.foldl (X7.pick may) (0, z)).1 : Nat) : Int), .int .i64 (pre.foldl (X7.pick may) (0, z)).2] 61 (0, 0)
def LgI (may : Nat) (z : Int) (wS : World) (b : Nat) (pre : List (Nat × Nat)) (W : World) : Prop := W.heap[b]? = some (bestV may z pre) ∧ KeptX wS.heap.size b wS W
theorem keptX_grown {b : Nat} {wS W W' : World} {row : Option Nat} (h : KeptX wS.heap.size b wS W) (hg : W.grownBy W' row) (hr : ∀ r, row = some r → wS.heap.size ≤ r) : KeptX wS.heap.size b wS W' :=
 h.trans ⟨hg.os, hg.tape, hg.output, hg.size, fun g h1 _ => hg.block g (Nat.lt_of_lt_of_le h1 h.size) fun e => by have := hr g e.symm; omega⟩
theorem lgI_own (may : Nat) (z : Int) (wS : World) (b : Nat) (hb : b < wS.heap.size) : OwnFrom wS.heap.size (LgI may z wS b) := by
 rintro pre W W' row ⟨h1, h2⟩ hg hr
 exact ⟨(hg.block b (Array.getElem?_eq_some_iff.1 h1).1 fun e => by have := (hr b e.symm).1; omega).trans h1, keptX_grown h2 hg fun r e => (hr r e).1⟩
set_option maxRecDepth 100000 in
set_option maxHeartbeats 8000000 in
theorem longest_any {D : Aut} {dd : Array Value} (w : World) (hL : Lies D dd w) (s : ByteArray) (hs : s.size ≤ 1000000) (z : Int) (may : Nat) (hmay : may < M64) :
  Calls Tryz.prog 28 #[.agg dd, .string s, .int .i64 z, .int .u64 (may : Int)] w fun e w' => e = .returned (.agg #[.int .u64 ((X7.lgX D (LL s) z may).1 : Int), .int .i64 (X7.lgX D (LL s) z may).2]) ∧ Below w.heap.size w w' := by
 refine (callsIn_wide (n := 5)).1 ?_
 refine callsIn_of_wp_marks Tryz.func28 rfl trivial ?_ rfl
 simp only [Tryz.ntmps28, List.size_toArray, List.length_cons, List.length_nil, Nat.reduceAdd, Nat.reduceSub, Array.replicate_succ, Array.replicate_zero, List.push_toArray, List.append_toArray, List.nil_append, List.cons_append]
 obtain ⟨w1, e1⟩ : ∃ w1, w.alloc (.cells dd 26) = w1 := ⟨_, rfl⟩
 obtain ⟨w2, e2⟩ : ∃ w2, w1.alloc (.cells #[.int .u64 (may : Int)] 54) = w2 := ⟨_, rfl⟩
 obtain ⟨w3, e3⟩ : ∃ w3, w2.alloc (.cells #[.int .u64 0, .int .i64 0] 61) = w3 := ⟨_, rfl⟩
 obtain ⟨w4, e4⟩ : ∃ w4, w3.alloc (.cells #[.int .u64 0, .int .i64 z] 61) = w4 := ⟨_, rfl⟩
 have hb1 : Below w.heap.size w w1 := by rw [← e1]; exact (Below.refl _ _).alloc (Nat.le_refl _) _
 have hb2 : Below w1.heap.size w1 w2 := by rw [← e2]; exact (Below.refl _ _).alloc (Nat.le_refl _) _
 have hb3 : Below w2.heap.size w2 w3 := by rw [← e3]; exact (Below.refl _ _).alloc (Nat.le_refl _) _
 have hb4 : Below w3.heap.size w3 w4 := by rw [← e4]; exact (Below.refl _ _).alloc (Nat.le_refl _) _
 have s1 : w1.heap.size = w.heap.size + 1 := by rw [← e1]; simp
 have s2 : w2.heap.size = w.heap.size + 2 := by rw [← e2]; simp [s1]
 have s3 : w3.heap.size = w.heap.size + 3 := by rw [← e3]; simp [s2]
 have s4 : w4.heap.size = w.heap.size + 4 := by rw [← e4]; simp [s3]
 have n1 : w1.heap[w.heap.size]? = some (.cells dd 26 (0, 0)) := by rw [← e1]; exact new_block _ _
 have n2 : w2.heap[w1.heap.size]? = some (.cells #[.int .u64 (may : Int)] 54 (0, 0)) := by rw [← e2]; exact new_block _ _
 have n3 : w3.heap[w2.heap.size]? = some (.cells #[.int .u64 0, .int .i64 0] 61 (0, 0)) := by rw [← e3]; exact new_block _ _
 have n4 : w4.heap[w3.heap.size]? = some (.cells #[.int .u64 0, .int .i64 z] 61 (0, 0)) := by rw [← e4]; exact new_block _ _
 obtain ⟨wS, eS⟩ : ∃ wS, ((w4.alloc (.cells #[.pointer (some ⟨w.heap.size, 0, none⟩)] 109)).alloc (.cells #[.string s] 9)).alloc (.cells #[.int .i64 z] 3) = wS := ⟨_, rfl⟩
 have hbS : Below w4.heap.size w4 wS := by rw [← eS]; exact (((Below.refl _ _).alloc (Nat.le_refl _) _).alloc (by simp) _).alloc (by simp; omega) _
 have sS : wS.heap.size = w.heap.size + 7 := by rw [← eS]; simp [s4]
 have nD : wS.heap[w4.heap.size]? = some (.cells #[.pointer (some ⟨w.heap.size, 0, none⟩)] 109 (0, 0)) := by
  rw [← eS]
  exact (Below.heap_alloc _ _ _ (by simp; omega)).trans ((Below.heap_alloc _ _ _ (by simp)).trans (new_block _ _))
 have nT : wS.heap[w4.heap.size + 1]? = some (.cells #[.string s] 9 (0, 0)) := by
  rw [← eS]
  exact (Below.heap_alloc _ _ _ (by simp)).trans (new_block2 _ _ _)
 have nA : wS.heap[w4.heap.size + 1 + 1]? = some (.cells #[.int .i64 z] 3 (0, 0)) := by rw [← eS]; exact new_block3 _ _ _ _
 have hw4 : Below w.heap.size w wS := (((hb1.trans (hb2.mono (by omega))).trans (hb3.mono (by omega))).trans (hb4.mono (by omega))).trans (hbS.mono (by omega))
 have m4 : wS.heap[w.heap.size]? = some (.cells dd 26 (0, 0)) := (hbS.block _ (by omega)).trans ((hb4.block _ (by omega)).trans ((hb3.block _ (by omega)).trans ((hb2.block _ (by omega)).trans n1)))
 have m7 : wS.heap[w1.heap.size]? = some (.cells #[.int .u64 (may : Int)] 54 (0, 0)) := (hbS.block _ (by omega)).trans ((hb4.block _ (by omega)).trans ((hb3.block _ (by omega)).trans n2))
 have m8 : wS.heap[w2.heap.size]? = some (.cells #[.int .u64 0, .int .i64 0] 61 (0, 0)) := (hbS.block _ (by omega)).trans ((hb4.block _ (by omega)).trans n3)
 have m9 : wS.heap[w3.heap.size]? = some (.cells #[.int .u64 0, .int .i64 z] 61 (0, 0)) := (hbS.block _ (by omega)).trans n4
 have SEQ := hid (pcs_seq 4 (by decide) w hL w.heap.size (w4.heap.size + 1 + 1) (w4.heap.size + 1) w4.heap.size w3.heap.size s hs z wS hw4 m4 nA nT nD ⟨by omega, by omega, by omega, by omega, by omega⟩)
 have HI0 : Hid (LgI may z wS w3.heap.size [] wS) := hid ⟨m9, KeptX.refl _ _ _⟩
 have HM7 := hid m7
 have HM8 := hid m8
 have HBW := hid hw4
 have HTG := hid (show X7.lgX D (LL s) z may = (X7.allP D (LL s) z).foldl (X7.pick may) (0, z) from (X7.lg_pcs D (LL s) z may (fun x hx => by
  obtain ⟨nv, tv, _, hda⟩ := hL
  obtain ⟨i, hi⟩ := List.mem_iff_getElem?.1 hx
  obtain ⟨_, _, _, _, _, _, h9⟩ := tagsAt_get hda.tags hi
  exact h9)).symm)
 have lt7 : w1.heap.size < wS.heap.size := by omega
 have lt8 : w2.heap.size < wS.heap.size := by omega
 have lt9 : w3.heap.size < wS.heap.size := by omega
 have ne79 : w1.heap.size ≠ w3.heap.size := by omega
 have ne89 : w2.heap.size ≠ w3.heap.size := by omega
 have le9 : w.heap.size ≤ w3.heap.size := by omega
 have le8 : w.heap.size ≤ w2.heap.size := by omega
 have leS : w.heap.size ≤ wS.heap.size := by omega
 clear hL hb1 hb2 hb3 hb4 s1 s2 s3 s4 n1 n2 n3 n4 hbS sS nD nT nA hw4 m4 m7 m8 m9
 gi_wp2_with fail
 refine ⟨trivial, (pieces_in 4 _ _ _ _).mono ?_⟩
 rintro e w' ⟨rfl, rfl⟩
 rw [eS]
 clear eS e1 e2 e3 e4
 gi_wp2_with fail
 refine wpIn_rangeFunc_ownH rfl (by decide) (gf := 89) (lb := #[.pointer (some ⟨w4.heap.size + 1 + 1, 0, none⟩), .pointer (some ⟨w4.heap.size + 1, 0, none⟩), .pointer (some ⟨w4.heap.size, 0, none⟩)]) rfl trivial (enters_of Tryz.func89 (by kernel_rfl) rfl) SEQ.out
  (fun h k => h.trans k)
  (fun W l' o o' hl' ho hc hw => ⟨rfl, rfl, rfl, by simp, fun g hg _ => World.putObj_heap_other (by omega)⟩)
  (Below.refl _ _) (fun _ => rfl)
  (LgI may z wS w3.heap.size) (fun _ _ _ => False) (lgI_own may z wS w3.heap.size lt9) (fun _ _ _ _ _ hs _ _ => hs) HI0.out
  (fun x a' W => ∃ (Bx : Nat), W.heap[Bx]? = some (.cells #[.int .u64 ((x.1 % M64 : Nat) : Int), .int .i64 (x.2 : Int)] 61 (0, 0)) ∧ Bx ≠ w3.heap.size ∧ a' = { tmps := #[.agg dd, .string s, .int .i64 z, .int .u64 (may : Int), .pointer (some ⟨w.heap.size, 0, none⟩), undef, undef, .pointer (some ⟨w1.heap.size, 0, none⟩), .pointer (some ⟨w2.heap.size, 0, none⟩), .pointer (some ⟨w3.heap.size, 0, none⟩), .pointer (some ⟨Bx, 0, none⟩), undef, .int .i64 z, .agg #[.int .u64 0, .int .i64 z], .string s, .int .i64 z, .func (.func 89) #[] #[.pointer (some ⟨w4.heap.size + 1 + 1, 0, none⟩), .pointer (some ⟨w4.heap.size + 1, 0, none⟩), .pointer (some ⟨w4.heap.size, 0, none⟩)], .agg #[.int .u64 ((x.1 % M64 : Nat) : Int), .int .i64 (x.2 : Int)], undef, undef, undef, undef, undef, undef, undef, undef, undef, undef, undef], defers := [] })
  (fun x a' s A C row ⟨Bx, hb, hne, e⟩ hg hr => ⟨Bx, (hg.block Bx (Array.getElem?_eq_some_iff.1 hb).1 (fun e => by
   obtain ⟨_, o, ho, hc⟩ := hr Bx e.symm
   rw [hb] at ho; obtain rfl := Option.some.inj ho; cases hc)).trans hb, hne, e⟩) ?assign ?body ?done ?stop
 case assign =>
  intro l' pre x W KK hi hK
  have HI := hid hi
  have HKK := hid hK
  clear hi hK
  unfold encP
  gi_wp2
  have hz := HI.out.2.size
  exact HKK.out _ _ ((KeepsOthers.alloc _ _).from _) (KeptX.of (by omega) ((Below.refl _ _).alloc (Nat.le_refl _) _)) ((lgI_own may z wS w3.heap.size lt9).alloc _ HI.out) ⟨W.heap.size, new_block _ _, by omega, rfl⟩
 case body =>
  rintro l' pre x a' W hl' ⟨r, hr⟩ ⟨i1, i2⟩ ⟨Bx, hbx, hne, rfl⟩ hlt
  have h7 := (i2.block _ lt7 ne79).trans HM7.out
  have c7 := cell1 h7
  have cx0 : W.cell? ⟨Bx, 0, none⟩ = some (.int .u64 ((x.1 % M64 : Nat) : Int)) := Lib.cell_of_heap hbx 0
  have cx1 : W.cell? ⟨Bx, 1, none⟩ = some (.int .i64 (x.2 : Int)) := Lib.cell_of_heap hbx 1
  obtain ⟨xm, hxm⟩ : ∃ xm, x.1 % M64 = xm := ⟨_, rfl⟩
  have hxl : xm < M64 := by rw [← hxm]; exact Nat.mod_lt _ (by decide)
  have KM := hid (B1.Meet_any xm may hxl hmay W)
  have HI1 := hid i1
  have HI2 := hid i2
  have HFX := hid (show ((pre ++ [x]).foldl (X7.pick may) (0, z)) = X7.pick may (pre.foldl (X7.pick may) (0, z)) x from by rw [List.foldl_append]; rfl)
  rw [hxm] at cx0
  simp only [hxm]
  obtain ⟨mm, hmm⟩ : ∃ mm, xm &&& may = mm := ⟨_, rfl⟩
  rw [hmm] at KM
  have HPK := hid (show X7.pick may (pre.foldl (X7.pick may) (0, z)) x = if mm ≠ 0 then (mm, (x.2 : Int)) else pre.foldl (X7.pick may) (0, z) from by unfold X7.pick; rw [hxm, hmm])
  obtain ⟨p1, hp1⟩ : ∃ p1 : Int, (((pre.foldl (X7.pick may) (0, z)).1 : Nat) : Int) = p1 := ⟨_, rfl⟩
  obtain ⟨p2, hp2⟩ : ∃ p2 : Int, (pre.foldl (X7.pick may) (0, z)).2 = p2 := ⟨_, rfl⟩
  have hb9 : W.heap[w3.heap.size]? = some (.cells #[.int .u64 p1, .int .i64 p2] 61 (0, 0)) := by rw [i1]; unfold bestV; rw [hp1, hp2]
  have c90 : W.cell? ⟨w3.heap.size, 0, none⟩ = some (.int .u64 p1) := Lib.cell_of_heap hb9 0
  have c91 : W.cell? ⟨w3.heap.size, 1, none⟩ = some (.int .i64 p2) := Lib.cell_of_heap hb9 1
  have f90 := Lib.frozen_of_heap hb9 0
  have f91 := Lib.frozen_of_heap hb9 1
  have HB9 := hid hb9
  clear i1 i2 h7 hbx hr hl' hxm hmm hp1 hp2 hb9 hlt
  gi_wp2_with fail
  refine ⟨trivial, (calls_round KM.out).mono ?_⟩
  rintro e w2 ⟨rfl, rfl⟩
  clear KM
  by_cases hm0 : mm = 0
  ·subst hm0
   gi_wp2_with fail
   refine ⟨KeepsFrom.refl _ _, KeptX.refl _ _ _, ?_, HI2.out⟩
   unfold bestV
   rw [HFX.out, HPK.out, if_neg (by decide)]
   exact HI1.out
  ·have t0 : ((mm : Int) != 0) = true := by simp [hm0]
   gi_wp2_with fail
   have hset := set_two HB9.out (.int .u64 (mm : Int)) (.int .i64 (x.2 : Int))
   refine ⟨⟨by simp, fun k o hk ho hc => ?_⟩, hset.2, ?_, HI2.out.trans hset.2⟩
   ·refine (Below.heap_setCell _ _ _ _ (by show k ≠ w3.heap.size; omega)).trans ((Below.heap_setCell _ _ _ _ (by show k ≠ w3.heap.size; omega)).trans ho)
   ·unfold bestV
    rw [HFX.out, HPK.out, if_pos hm0]
    exact hset.1
 case done =>
  rintro D' ys W hD rfl ⟨i1, i2⟩ hK
  unfold bestV at i1
  rw [← HTG.out] at i1
  obtain ⟨q1, hq1⟩ : ∃ q1 : Int, (((X7.lgX D (LL s) z may).1 : Nat) : Int) = q1 := ⟨_, rfl⟩
  obtain ⟨q2, hq2⟩ : ∃ q2 : Int, (X7.lgX D (LL s) z may).2 = q2 := ⟨_, rfl⟩
  rw [hq1, hq2] at i1
  have h8 := (i2.block _ lt8 ne89).trans HM8.out
  have c90 : W.cell? ⟨w3.heap.size, 0, none⟩ = some (.int .u64 q1) := Lib.cell_of_heap i1 0
  have c91 : W.cell? ⟨w3.heap.size, 1, none⟩ = some (.int .i64 q2) := Lib.cell_of_heap i1 1
  have c80 : W.cell? ⟨w2.heap.size, 0, none⟩ = some (.int .u64 0) := Lib.cell_of_heap h8 0
  have c81 : W.cell? ⟨w2.heap.size, 1, none⟩ = some (.int .i64 0) := Lib.cell_of_heap h8 1
  have f80 := Lib.frozen_of_heap h8 0
  have f81 := Lib.frozen_of_heap h8 1
  have H8 := hid h8
  have HI2 := hid i2
  have HQ := hid (And.intro hq1 hq2)
  clear i1 i2 h8 hq1 hq2
  gi_wp2_with fail
  have hset := set_two H8.out (.int .u64 q1) (.int .i64 q2)
  obtain ⟨W2, hW2⟩ : ∃ W2, (W.setCell ⟨w2.heap.size, 0, none⟩ (.int .u64 q1)).setCell ⟨w2.heap.size, 1, none⟩ (.int .i64 q2) = W2 := ⟨_, rfl⟩
  rw [hW2] at hset
  have hne : D' ≠ w2.heap.size := by omega
  have hK2 : W2.heap[D']? = some (.deferred (some [])) := by
   rw [← hW2]
   exact (Below.heap_setCell _ _ _ _ hne).trans ((Below.heap_setCell _ _ _ _ hne).trans hK)
  have hbl : Below w.heap.size w W2 := (KeptX.bel (m := w.heap.size) (b := w2.heap.size) hset.2 (HI2.out.bel HBW.out leS le9) (Nat.le_refl _) le8)
  rw [hW2]
  refine ⟨by simp, .inl ⟨_, _, rfl, run_takeDeferred hK2, ?_⟩⟩
  have h9 : (W2.putObj D' (.deferred none)).heap[w2.heap.size]? = some (.cells #[.int .u64 q1, .int .i64 q2] 61 (0, 0)) := (World.putObj_heap_other (by omega)).trans hset.1
  refine ⟨_, results_cell_row rfl _ _ w2.heap.size 61 _ (0, 0) _ rfl h9 Tryz.underlying61 rfl (by kernel_rfl), by rw [HQ.out.1, HQ.out.2], hbl.trans ⟨rfl, rfl, rfl, by simp, fun k hk => World.putObj_heap_other (by omega)⟩⟩
 case stop =>
  rintro D c pre W _ _ h _
  exact h.elim
end Go.Proofs.YtochckefnjobhaaGreatDoor
namespace Go.Proofs.X7
set_option linter.unusedVariables false
open Go.Proofs.YtochckefnjobhaaGreatDoor.B1 (hasN lessN bitN lessN_lt)
def winS (tags : Nat) (left : Nat) (p : Int × Int) : Nat := if p.1 ≠ p.2 ∧ hasN tags p.1 = true then lessN left (bitN p.2) else left
def winX (tags : Nat) (l : List (Int × Int)) : Nat := l.foldl (winS tags) tags
theorem winS_lt {tags left : Nat} (p : Int × Int) (h : left < M64) : winS tags left p < M64 := by
 unfold winS
 split
 ·exact lessN_lt h _
 ·exact h
theorem win_fold_lt (tags : Nat) : ∀ (l : List (Int × Int)) (left : Nat), left < M64 → l.foldl (winS tags) left < M64
 | [], _, h => h
 | p :: l, left, h => win_fold_lt tags l _ (winS_lt p h)
theorem win_take {tags : Nat} {l : List (Int × Int)} {k : Nat} {p : Int × Int} (h : l[k]? = some p) : (l.take (k + 1)).foldl (winS tags) tags = winS tags ((l.take k).foldl (winS tags) tags) p := by
 rw [List.take_add_one, h, List.foldl_append]
 rfl
end Go.Proofs.X7
namespace Go.Proofs.YtochckefnjobhaaGreatDoor
open Go Go.RowKit Go.Lib
open X7 (M64)
set_option linter.unusedVariables false
set_option linter.unusedSimpArgs false
def OverAt (w : World) (v : Value) (l : List (Int × Int)) : Prop := ∃ ro rc, v = .slice ro l.length rc ∧ ∀ i (hi : i < l.length), ∃ b off, ro = some ⟨b, off, none⟩ ∧ b < w.heap.size ∧ w.cell? ⟨b, off + i * 2, none⟩ = some (.int .i64 l[i].1) ∧ w.cell? ⟨b, off + i * 2 + 1, none⟩ = some (.int .i64 l[i].2)
theorem OverAt.below {w w' : World} {v : Value} {l : List (Int × Int)} (h : OverAt w v l) (hb : Below w.heap.size w w') : OverAt w' v l := by
 obtain ⟨ro, rc, e, h1⟩ := h
 refine ⟨ro, rc, e, fun i hi => ?_⟩
 obtain ⟨b, off, e2, h2, h3, h4⟩ := h1 i hi
 exact ⟨b, off, e2, Nat.lt_of_lt_of_le h2 hb.size, (World.cell?_of_block (a := ⟨b, _, none⟩) (hb.block b h2)).trans h3, (World.cell?_of_block (a := ⟨b, _, none⟩) (hb.block b h2)).trans h4⟩
set_option maxRecDepth 100000 in
set_option maxHeartbeats 4000000 in
theorem win1_any (tags left : Nat) (ht : tags < M64) (hl : left < M64) (p q : Int) (b2 b5 : Nat) (w : World) (h2 : w.heap[b2]? = some (.cells #[.int .u64 (tags : Int)] 54 (0, 0))) (h5 : w.heap[b5]? = some (.cells #[.int .u64 (left : Int)] 54 (0, 0))) :
  Calls Tryz.prog 62 #[.int .i64 p, .int .i64 q, .pointer (some ⟨b2, 0, none⟩), .pointer (some ⟨b5, 0, none⟩)] w fun e w' => e = .returned (.tuple #[]) ∧ w'.heap[b5]? = some (.cells #[.int .u64 ((X7.winS tags left (p, q) : Nat) : Int)] 54 (0, 0)) ∧ ∀ {m : Nat}, KeptX m b5 w w' := by
 have KH := hid (B1.Has_any tags p ht w)
 have KW := hid (B1.Without_any left q hl w)
 have c2 := cell1 h2
 have c5 := cell1 h5
 have f5 := Lib.frozen_of_heap h5 0
 have H5 := hid h5
 have HW := hid (show X7.winS tags left (p, q) = if p ≠ q ∧ B1.hasN tags p = true then B1.lessN left (B1.bitN q) else left from rfl)
 clear h2 h5
 go_enter Tryz.func62, Tryz.ntmps62
 by_cases hpq : p = q
 ·subst hpq
  go_wp2_with fail
  go_end0
  refine ⟨rfl, ?_, KeptX.refl _ _ _⟩
  rw [HW.out, if_neg (by simp)]
  exact H5.out
 ·have g1 : (p != q) = true := by simp [hpq]
  have g2 : decide (p = q) = false := by simp [hpq]
  cases hh : B1.hasN tags p with
  | true =>
   rw [hh] at KH HW
   go_wp2_with fail
   refine KH.out.mono ?_
   rintro e w' ⟨rfl, rfl⟩
   go_wp2_with fail
   refine KW.out.mono ?_
   rintro e w' ⟨rfl, rfl⟩
   go_wp2_with fail
   go_end0
   refine ⟨rfl, ?_, ⟨rfl, rfl, rfl, by simp, fun g _ hg => Below.heap_setCell _ _ _ _ hg⟩⟩
   rw [HW.out, if_pos ⟨hpq, by first | trivial | rfl⟩]
   exact heap_set0 _ H5.out
  | false =>
   rw [hh] at KH HW
   go_wp2_with fail
   refine KH.out.mono ?_
   rintro e w' ⟨rfl, rfl⟩
   go_wp2_with fail
   go_end0
   refine ⟨rfl, ?_, KeptX.refl _ _ _⟩
   rw [HW.out, if_neg (by simp)]
   exact H5.out
set_option maxRecDepth 100000 in
set_option maxHeartbeats 4000000 in
theorem win_any (tags : Nat) (ht : tags < M64) (v : Value) (l : List (Int × Int)) (w : World) (hv : OverAt w v l) (hl : l.length ≤ 1000000) :
  Calls Tryz.prog 32 #[.int .u64 (tags : Int), v] w fun e w' => e = .returned (.int .u64 ((X7.winX tags l : Nat) : Int)) ∧ Below w.heap.size w w' := by
 obtain ⟨ro, rc, rfl, hov⟩ := hv
 obtain ⟨w1, e1⟩ : ∃ w1, w.alloc (.cells #[.int .u64 (tags : Int)] 54) = w1 := ⟨_, rfl⟩
 obtain ⟨w2, e2⟩ : ∃ w2, w1.alloc (.cells #[.int .u64 (tags : Int)] 54) = w2 := ⟨_, rfl⟩
 have hb1 : Below w.heap.size w w1 := by rw [← e1]; exact (Below.refl _ _).alloc (Nat.le_refl _) _
 have hb2 : Below w1.heap.size w1 w2 := by rw [← e2]; exact (Below.refl _ _).alloc (Nat.le_refl _) _
 have s1 : w1.heap.size = w.heap.size + 1 := by rw [← e1]; simp
 have s2 : w2.heap.size = w.heap.size + 2 := by rw [← e2]; simp [s1]
 have n1 : w1.heap[w.heap.size]? = some (.cells #[.int .u64 (tags : Int)] 54 (0, 0)) := by rw [← e1]; exact new_block _ _
 have n2 : w2.heap[w1.heap.size]? = some (.cells #[.int .u64 (tags : Int)] 54 (0, 0)) := by rw [← e2]; exact new_block _ _
 have m1 := (hb2.block _ (by omega)).trans n1
 have HB := hid (hb1.trans (hb2.mono (by omega)))
 have HOV := hid hov
 have HM1 := hid m1
 have c1 := cell1 n1
 have HI0 : Hid (w2.heap[w1.heap.size]? = some (.cells #[.int .u64 (((l.take 0).foldl (X7.winS tags) tags : Nat) : Int)] 54 (0, 0)) ∧ KeptX w2.heap.size w1.heap.size w2 w2) := hid ⟨n2, KeptX.refl _ _ _⟩
 have lt1 : w.heap.size < w2.heap.size := by omega
 have ne1 : w.heap.size ≠ w1.heap.size := by omega
 have le1 : w.heap.size ≤ w1.heap.size := by omega
 have le2 : w.heap.size ≤ w2.heap.size := by omega
 clear hov hb1 hb2 s1 s2 n1 n2 m1
 go_enter Tryz.func32, Tryz.ntmps32
 go_wp2_with fail
 clear e1 e2 c1
 go_loopw [13] (fun t13 wr => ∃ k : Nat, k ≤ l.length ∧ t13 = .int .i64 (k : Int) ∧ Hid (wr.heap[w1.heap.size]? = some (.cells #[.int .u64 (((l.take k).foldl (X7.winS tags) tags : Nat) : Int)] 54 (0, 0)) ∧ KeptX w2.heap.size w1.heap.size w2 wr)) (fun t13 _ => l.length - (RowKit.intOf t13).toNat)
 case atStart => exact ⟨0, Nat.zero_le _, rfl, HI0⟩
 case round =>
  obtain ⟨k, hk, rfl, HI⟩ := hrel
  by_cases hlt : k < l.length
  ·have h1 : (k : Int) < (l.length : Int) := by omega
   have h2 : (0 : Int) ≤ (k : Int) := by omega
   obtain ⟨b, off, hro, hbl, ca, cb⟩ := HOV.out k hlt
   subst hro
   obtain ⟨pp, hpp⟩ : ∃ pp, l[k] = pp := ⟨_, rfl⟩
   obtain ⟨p, q⟩ := pp
   rw [hpp] at ca cb
   have hle := HI.out.2.size
   have HBr := hid (HI.out.2.bel HB.out le2 le1)
   have ca' := cell_bel HBr.out hbl ca
   have cb' := cell_bel HBr.out hbl cb
   obtain ⟨w3, e3⟩ : ∃ w3, wr.alloc (.cells #[.int .i64 p, .int .i64 q] 80) = w3 := ⟨_, rfl⟩
   have hb3 : Below wr.heap.size wr w3 := by rw [← e3]; exact (Below.refl _ _).alloc (Nat.le_refl _) _
   have n3 : w3.heap[wr.heap.size]? = some (.cells #[.int .i64 p, .int .i64 q] 80 (0, 0)) := by rw [← e3]; exact new_block _ _
   have d0 : w3.cell? ⟨wr.heap.size, 0, none⟩ = some (.int .i64 p) := Lib.cell_of_heap n3 0
   have d1 : w3.cell? ⟨wr.heap.size, 1, none⟩ = some (.int .i64 q) := Lib.cell_of_heap n3 1
   have hi1 := (hb3.block _ (Array.getElem?_eq_some_iff.1 HI.out.1).1).trans HI.out.1
   have hi2 := HI.out.2.below hle hb3
   have hm := (hi2.block _ lt1 ne1).trans HM1.out
   have HW3 := hid hi2
   have hlX := X7.win_fold_lt tags (l.take k) tags ht
   have K := hid (win1_any tags _ ht hlX p q w.heap.size w1.heap.size w3 hm hi1)
   have HNX := hid (X7.win_take (tags := tags) (l := l) (k := k) (p := (p, q)) (by rw [List.getElem?_eq_getElem hlt, hpp]))
   clear hb3 n3 hi1 hi2 hm hlX ca cb hpp hbl
   go_wp2_with fail
   refine K.out.mono ?_
   rintro e w4 ⟨rfl, h4, hk4⟩
   have HI4 := hid (And.intro h4 (HW3.out.trans hk4))
   clear K h4 hk4 ca' cb' d0 d1 e3
   go_wp2_with fail
   refine ⟨⟨k + 1, by omega, rfl, hid ⟨by rw [HNX.out]; exact HI4.out.1, HI4.out.2⟩⟩, ?_⟩
   show l.length - ((k : Int) + 1).toNat < l.length - ((k : Int)).toNat
   omega
  ·have h1 : ¬ (k : Int) < (l.length : Int) := by omega
   have hkl : k = l.length := by omega
   have hX : (l.take k).foldl (X7.winS tags) tags = X7.winX tags l := by rw [hkl, List.take_length]; rfl
   have hi := HI.out.1
   rw [hX] at hi
   have c5 := cell1 hi
   have HE := hid (HI.out.2.bel HB.out le2 le1)
   clear hi hX hkl
   go_wp2_with fail
   go_ret
   exact ⟨rfl, HE.out⟩
end Go.Proofs.YtochckefnjobhaaGreatDoor
namespace Go.Proofs.X7
set_option linter.unusedVariables false
open X5 (Aut)
open Go.Proofs.YtochckefnjobhaaGreatDoor.B1 (upto firstOf lessN testBit_lessN upto_nil_iff)
def oneX (left : Nat) : Int := if (upto left 64).length = 1 then firstOf (upto left 64) else -1
def pickX (D : Aut) (t : List UInt8) (z : Int) (may : Nat) (ov : List (Int × Int)) : Int × Int := (oneX (winX (lgX D t z may).1 ov), (lgX D t z may).2)
theorem less_zero (b : Nat) : lessN 0 b = 0 := Nat.eq_of_testBit_eq fun i => by rw [testBit_lessN]; simp
theorem win_zero (tags : Nat) : ∀ l : List (Int × Int), l.foldl (winS tags) 0 = 0
 | [] => rfl
 | p :: l => by
  have : winS tags 0 p = 0 := by unfold winS; split <;> simp [less_zero]
  rw [List.foldl_cons, this, win_zero tags l]
theorem one_neg {left : Nat} (h : left = 0) : oneX left = -1 := by
 subst h
 decide
theorem last_pos (D : Aut) (t : List UInt8) (a may : Nat) : ∀ n, (lastX D t a may n).1 ≠ 0 → a < (lastX D t a may n).2
 | 0, h => absurd rfl h
 | n + 1, h => by
  rw [lastX] at h ⊢
  split at h
  ·rename_i c
   rw [if_pos c]; show a < a + n + 1; omega
  ·rename_i c
   rw [if_neg c]
   exact last_pos D t a may n h
theorem lg_pos (D : Aut) (t : List UInt8) (z : Int) (may : Nat) (h : (lgX D t z may).1 ≠ 0) : z < (lgX D t z may).2 ∧ (lgX D t z may).2 ≤ (t.length : Int) ∧ 0 ≤ z := by
 unfold lgX at h ⊢
 split at h
 ·exact absurd rfl h
 ·rename_i c
  rw [if_neg c]
  have h1 := last_pos D t z.toNat may _ h
  have h2 := last_le D t z.toNat may (t.length - z.toNat)
  show z < ((lastX D t z.toNat may (t.length - z.toNat)).2 : Int) ∧ ((lastX D t z.toNat may (t.length - z.toNat)).2 : Int) ≤ _ ∧ _
  omega
theorem pick_pos (D : Aut) (t : List UInt8) (z : Int) (may : Nat) (ov : List (Int × Int)) (h : 0 ≤ (pickX D t z may ov).1) : z < (pickX D t z may ov).2 ∧ (pickX D t z may ov).2 ≤ (t.length : Int) ∧ 0 ≤ z :=
 lg_pos D t z may fun e => by
  unfold pickX at h
  simp only [e] at h
  rw [one_neg (show winX 0 ov = 0 from win_zero 0 ov)] at h
  exact absurd h (by decide)
end Go.Proofs.X7
namespace Go.Proofs.YtochckefnjobhaaGreatDoor
open Go Go.RowKit Go.Lib
open X5 (Aut)
open X7 (M64)
set_option linter.unusedVariables false
set_option linter.unusedSimpArgs false
set_option maxRecDepth 100000 in
set_option maxHeartbeats 4000000 in
theorem pick_any {D : Aut} {dd : Array Value} (w : World) (hL : Lies D dd w) (s : ByteArray) (hs : s.size ≤ 1000000) (z : Int) (may : Nat) (hmay : may < M64) (v : Value) (l : List (Int × Int)) (hv : OverAt w v l) (hl : l.length ≤ 1000000) :
  Calls Tryz.prog 30 #[.agg dd, .string s, .int .i64 z, .int .u64 (may : Int), v] w fun e w' => e = .returned (.tuple #[.int .i64 (X7.pickX D (LL s) z may l).1, .int .i64 (X7.pickX D (LL s) z may l).2]) ∧ Below w.heap.size w w' := by
 obtain ⟨w1, e1, hx1, hb1⟩ := boxed w dd
 have HX := hid (show w1.heap[w.heap.size]? = some (.cells dd 26 (0, 0)) from hx1)
 have HSZ := hid hL.sz
 have HB1 := hid hb1
 have KL := hid (longest_any w1 (hL.below hb1) s hs z may hmay)
 have HV := hid (hv.below hb1)
 have HLT := hid (X7.lg_lt D (LL s) z may hmay)
 have HPX := hid (show X7.pickX D (LL s) z may l = (X7.oneX (X7.winX (X7.lgX D (LL s) z may).1 l), (X7.lgX D (LL s) z may).2) from rfl)
 obtain ⟨q1, hq1⟩ : ∃ q1 : Nat, (X7.lgX D (LL s) z may).1 = q1 := ⟨_, rfl⟩
 obtain ⟨q2, hq2⟩ : ∃ q2 : Int, (X7.lgX D (LL s) z may).2 = q2 := ⟨_, rfl⟩
 rw [hq1, hq2] at KL HPX
 rw [hq1] at HLT
 obtain ⟨vo, vn, vc, hvs⟩ : ∃ vo vn vc, v = .slice vo vn vc := by obtain ⟨ro, rc, e, _⟩ := hv; exact ⟨_, _, _, e⟩
 have HVS := hid hvs
 clear hv hL hx1 hb1 hq1 hq2 hvs
 go_enter Tryz.func30, Tryz.ntmps30
 go_wp2_with fail
 refine wp_load30' (.tmp 5) rfl w.heap.size rfl dd HX.out HSZ.out.1 ?_
 go_wp2_with fail
 refine KL.out.mono ?_
 rintro e w2 ⟨rfl, hb2⟩
 clear KL e1
 have HB2 := hid (HB1.out.trans (hb2.mono HB1.out.size))
 obtain ⟨w3, e3⟩ : ∃ w3, w2.alloc (.cells #[.int .u64 (q1 : Int), .int .i64 q2] 61) = w3 := ⟨_, rfl⟩
 have hb3 : Below w2.heap.size w2 w3 := by rw [← e3]; exact (Below.refl _ _).alloc (Nat.le_refl _) _
 have n3 : w3.heap[w2.heap.size]? = some (.cells #[.int .u64 (q1 : Int), .int .i64 q2] 61 (0, 0)) := by rw [← e3]; exact new_block _ _
 have HB3 := hid (HB2.out.trans (hb3.mono HB2.out.size))
 have c0 : w3.cell? ⟨w2.heap.size, 0, none⟩ = some (.int .u64 (q1 : Int)) := Lib.cell_of_heap n3 0
 have HN3 := hid n3
 have KW := hid (win_any q1 HLT.out v l w3 ((HV.out.below hb2).below hb3) hl)
 have HWL := hid (show X7.winX q1 l < M64 from X7.win_fold_lt q1 l q1 HLT.out)
 obtain ⟨lf, hlf⟩ : ∃ lf, X7.winX q1 l = lf := ⟨_, rfl⟩
 rw [hlf] at KW HWL HPX
 clear hb2 hb3 n3 hlf
 go_wp2_with fail
 refine KW.out.mono ?_
 rintro e w4 ⟨rfl, hb4⟩
 have HB4 := hid (HB3.out.trans (hb4.mono HB3.out.size))
 have HN4 := hid ((hb4.block _ (Array.getElem?_eq_some_iff.1 HN3.out).1).trans HN3.out)
 have KC := hid (B1.Count_any lf HWL.out w4)
 clear hb4 KW c0 e3
 go_wp2_with fail
 refine KC.out.mono ?_
 rintro e w5 ⟨rfl, hb5⟩
 have HB5 := hid (HB4.out.trans (hb5.mono HB4.out.size))
 have HN5 := hid ((hb5.block _ (Array.getElem?_eq_some_iff.1 HN4.out).1).trans HN4.out)
 have HC1 : Hid (∀ w', Below w5.heap.size w5 w' → w'.cell? ⟨w2.heap.size, 1, none⟩ = some (.int .i64 q2)) := hid fun w' hC => Lib.cell_of_heap ((hC.block _ (Array.getElem?_eq_some_iff.1 HN5.out).1).trans HN5.out) 1
 have KF : Hid (∀ w', Below w5.heap.size w5 w' → Calls Tryz.prog 39 #[.int .u64 (lf : Int)] w' fun e w'' => e = .returned (.int .i64 (B1.firstOf (B1.upto lf 64))) ∧ Below w'.heap.size w' w'') := hid fun w' hC => B1.First_any lf HWL.out w'
 have HOX := hid (show X7.oneX lf = if (B1.upto lf 64).length = 1 then B1.firstOf (B1.upto lf 64) else -1 from rfl)
 clear hb5 KC
 generalize B1.firstOf (B1.upto lf 64) = fo at *
 generalize (B1.upto lf 64).length = cn at *
 by_cases hcn : cn = 1
 ·subst hcn
  go_wp2_with fail
  refine wp_region_below (by kernel_rfl) (by kernel_rfl) ?_
  repeat (first
            | (refine BigFrame.wpQuiet_skip (by rfl) ?_; try simp only [Act.put, List.setIfInBounds_toArray, List.set_cons_zero, List.set_cons_succ])
            | (refine BigFrame.wpQuiet_want (by rfl) (fun K hK => ?_)
               apply Exists.intro
               refine ⟨fun w' hC => ?_, hK _ ?_⟩
               · first
                  | (have f0' := HC1.out w' hC
                     unfold Oper.quietAt
                     go_simp
                     first
                       | with_reducible rfl
                       | done
                       | with_reducible exact below_call hC (Nat.le_refl _) (KF.out w' hC))
               clear hK K
               try simp only [Act.put, List.setIfInBounds_toArray, List.set_cons_zero, List.set_cons_succ]))
  refine wpQuiet_nil ?_
  intro w6 hb6
  go_wp2_with fail
  refine bodyPost_ret (results_tmp2 rfl _ _ _) rfl ?_
  refine ⟨?_, HB5.out.trans (hb6.mono HB5.out.size)⟩
  have h9 : X7.oneX lf = fo := by rw [HOX.out]; simp
  rw [HPX.out, h9]
  rfl
 ·have g1 : ((cn : Int) != 1) = true := by simp; omega
  go_wp2_with fail
  refine wp_region_below (by kernel_rfl) (by kernel_rfl) ?_
  repeat (first
            | (refine BigFrame.wpQuiet_skip (by rfl) ?_; try simp only [Act.put, List.setIfInBounds_toArray, List.set_cons_zero, List.set_cons_succ])
            | (refine BigFrame.wpQuiet_want (by rfl) (fun K hK => ?_)
               apply Exists.intro
               refine ⟨fun w' hC => ?_, hK _ ?_⟩
               · first
                  | (have f0' := HC1.out w' hC
                     unfold Oper.quietAt
                     go_simp
                     first
                       | with_reducible rfl
                       | done)
               clear hK K
               try simp only [Act.put, List.setIfInBounds_toArray, List.set_cons_zero, List.set_cons_succ]))
  refine wpQuiet_nil ?_
  intro w6 hb6
  go_wp2_with fail
  refine bodyPost_ret (results_tmp2 rfl _ _ _) rfl ?_
  refine ⟨?_, HB5.out.trans (hb6.mono HB5.out.size)⟩
  have h9 : X7.oneX lf = -1 := by rw [HOX.out]; simp [hcn]
  rw [HPX.out, h9]
  rfl
end Go.Proofs.YtochckefnjobhaaGreatDoor
namespace Go.Proofs.X7
set_option linter.unusedVariables false
open X5 (Aut)
open Go.Proofs.YtochckefnjobhaaGreatDoor.B1 (bitN)
def allX (D : Aut) (t : List UInt8) (may : Nat) (ov : List (Int × Int)) : Nat → Int → List (Nat × Int) × Int
 | 0, z => ([], z)
 | f + 1, z => if (pickX D t z may ov).1 < 0 then ([], z) else ((bitN (pickX D t z may ov).1, (pickX D t z may ov).2) :: (allX D t may ov f (pickX D t z may ov).2).1, (allX D t may ov f (pickX D t z may ov).2).2)
theorem all_fuel (D : Aut) (t : List UInt8) (may : Nat) (ov : List (Int × Int)) : ∀ (f g : Nat) (z : Int), (t.length : Int) - z < f → (t.length : Int) - z < g → 0 ≤ z → z ≤ (t.length : Int) → allX D t may ov f z = allX D t may ov g z
 | 0, _, z, h, _, _, h2 => by omega
 | f + 1, 0, z, _, h, _, h2 => by omega
 | f + 1, g + 1, z, h1, h2, h3, h4 => by
  rw [allX, allX]
  split
  ·rfl
  ·rename_i c
   obtain ⟨k1, k2, k3⟩ := pick_pos D t z may ov (by omega)
   rw [all_fuel D t may ov f g _ (by omega) (by omega) (by omega) k2]
def allT (D : Aut) (t : List UInt8) (may : Nat) (ov : List (Int × Int)) : List (Nat × Int) × Int := allX D t may ov (t.length + 1) 0
end Go.Proofs.X7
namespace Go.Proofs.YtochckefnjobhaaGreatDoor
open Go Go.RowKit Go.Lib
open X5 (Aut)
open X7 (M64)
set_option linter.unusedVariables false
set_option linter.unusedSimpArgs false
theorem info61 : (Tryz.prog.info? 61).map (fun i => (i.zero, i.size, i.bytes)) = some (some (.agg #[.int .u64 0, .int .i64 0]), 2, 16) := by kernel_rfl
theorem add_one_cell {b off j : Nat} : (⟨b, off, none⟩ : Addr).add j = ⟨b, off + j, none⟩ := by unfold Addr.add; split <;> simp_all
def pcells (l : List (Nat × Int)) : List Value := l.flatMap fun p => [.int .u64 (p.1 : Int), .int .i64 p.2]
theorem pcells_snoc (l : List (Nat × Int)) (p : Nat × Int) : pcells (l ++ [p]) = pcells l ++ [.int .u64 (p.1 : Int), .int .i64 p.2] := by simp [pcells]
theorem wpList_push61 {ops : Array Oper} {rest : List Oper} {o : Oper} {a : Act} {w : World} {Q : Exit → Act → World → Prop} (hgd : o.guard = none) (s x : Operand) (ho : o.op = .call { callee := .builtin .append, args := #[s, x], argTypes := #[70, 70] })
  (base : Nat) (v : Value) (n : Nat) (xs : List Value) (hs : a.eval s = v) (hown : w.ownsRow base 61 2 v n xs) (g : Nat) (hx : a.eval x = .slice (some ⟨g, 0, none⟩) 1 1) (p q : Int) (hb : w.heap[g]? = some (.cells #[.int .u64 p, .int .i64 q] 61 (0, 0))) (hn : n ≤ 1000000) (hbase : base ≤ w.heap.size)
  (h : ∀ v' w', w'.ownsRow base 61 2 v' (n + 1) (xs ++ [.int .u64 p, .int .i64 q]) → w.grownBy w' v.ownBlock → (v'.ownBlock = v.ownBlock ∨ v'.ownBlock = some w.heap.size) → wpList Tryz.prog ops Q rest (a.put o.dst v') w') : wpList Tryz.prog ops Q (o :: rest) a w := by
 obtain ⟨i, hi, h0, h1, h2⟩ := info_parts info61
 refine wpList_append_own_at w hgd s x 70 ho base 61 i _ 2 16 Tryz.underlying70 hi h0 h1 h2 rfl (by decide) v n xs hs hown ⟨g, 0, none⟩ 1 1 [.int .u64 p, .int .i64 q] hx rfl (fun j u hj => ?_) (fun u hu => ?_) (by unfold maxLen; omega) ?_ hbase (fun v' w' a1 a2 _ a4 => h v' w' a1 a2 a4)
 ·rw [add_one_cell, Nat.zero_add, Lib.cell_of_heap hb, ← hj]
  simp
 ·simp at hu; rcases hu with rfl | rfl <;> rfl
 ·omega
theorem own2_shape {w : World} {B n sz : Nat} {e : TypeId} {v : Value} {xs : List Value} (h : w.ownsRow B e sz v n xs) : ∃ o c, v = .slice o n c := by
 rcases h.2 with ⟨rfl, h0⟩ | ⟨g, cap, cur, rfl, _⟩
 ·exact ⟨none, 0, by rw [h0]⟩
 ·exact ⟨_, _, rfl⟩
theorem own2_lt {w : World} {B n sz : Nat} {e : TypeId} {v : Value} {xs : List Value} (h : w.ownsRow B e sz v n xs) : ∀ b, v.ownBlock = some b → B ≤ b ∧ b < w.heap.size := by
 intro b hb
 rcases h.2 with ⟨rfl, h0⟩ | ⟨g, cap, cur, rfl, hB, hg, _⟩
 ·cases hb
 ·injection hb with hb; subst hb; exact ⟨hB, (Array.getElem?_eq_some_iff.1 hg).1⟩
theorem own2_below {w w' : World} {B n sz : Nat} {e : TypeId} {v : Value} {xs : List Value} (h : w.ownsRow B e sz v n xs) (hb : Below w.heap.size w w') : w'.ownsRow B e sz v n xs :=
 owns_kept h fun g hg => hb.block g (own2_lt h g hg).2
set_option maxRecDepth 100000 in
set_option maxHeartbeats 4000000 in
theorem all_any {D : Aut} {dd : Array Value} (w : World) (hL : Lies D dd w) (s : ByteArray) (hs : s.size ≤ 100000) (may : Nat) (hmay : may < M64) (v : Value) (l : List (Int × Int)) (hv : OverAt w v l) (hl : l.length ≤ 1000000) :
  Calls Tryz.prog 34 #[.agg dd, .string s, .int .u64 (may : Int), v] w fun e w' => ∃ o c, e = .returned (.tuple #[.slice o (X7.allT D (LL s) may l).1.length c, .int .i64 (X7.allT D (LL s) may l).2]) ∧ w'.ownsRow w.heap.size 61 2 (.slice o (X7.allT D (LL s) may l).1.length c) (X7.allT D (LL s) may l).1.length (pcells (X7.allT D (LL s) may l).1) ∧ Below w.heap.size w w' := by
 obtain ⟨w1, e1, hx1, hb1⟩ := boxed w dd
 have hsw1 : w.heap.size ≤ w1.heap.size := hb1.size
 have HX := hid (show w1.heap[w.heap.size]? = some (.cells dd 26 (0, 0)) from hx1)
 have HSZ := hid hL.sz
 have HB1 := hid hb1
 have HL := hid (hL.below hb1)
 have HV := hid (hv.below hb1)
 have hls : (LL s).length = s.size := Array.length_toList
 obtain ⟨vo, vn, vc, hvs⟩ : ∃ vo vn vc, v = .slice vo vn vc := by obtain ⟨ro, rc, e, _⟩ := hv; exact ⟨_, _, _, e⟩
 subst hvs
 obtain ⟨T, hT⟩ : ∃ T, X7.allT D (LL s) may l = T := ⟨_, rfl⟩
 have HI0 : Hid (([] : List (Nat × Int)) ++ (X7.allX D (LL s) may l (s.size + 1) 0).1 = T.1 ∧ (X7.allX D (LL s) may l (s.size + 1) 0).2 = T.2) := hid (by rw [← hT]; unfold X7.allT; rw [hls]; exact ⟨rfl, rfl⟩)
 rw [hT]
 have HLs := hid hls
 clear hv hL hx1 hb1 hT hls
 go_enter Tryz.func34, Tryz.ntmps34
 go_wp2_with fail
 clear e1
 go_loopw [10, 11] (fun t10 t11 wr => ∃ (acc : List (Nat × Int)) (z : Int) (o : Option Addr) (c : Nat), t10 = .slice o acc.length c ∧ t11 = .int .i64 z ∧ 0 ≤ z ∧ z ≤ (s.size : Int) ∧ acc.length ≤ z.toNat ∧ Hid (acc ++ (X7.allX D (LL s) may l (s.size + 1) z).1 = T.1 ∧ (X7.allX D (LL s) may l (s.size + 1) z).2 = T.2) ∧ Hid (wr.ownsRow w1.heap.size 61 2 (.slice o acc.length c) acc.length (pcells acc)) ∧ Hid (Below w1.heap.size w1 wr)) (fun _ t11 _ => s.size - (RowKit.intOf t11).toNat)
 case atStart => exact ⟨[], 0, none, 0, rfl, rfl, Int.le_refl _, by omega, Nat.zero_le _, HI0, hid ⟨rfl, .inl ⟨rfl, rfl⟩⟩, hid (Below.refl _ _)⟩
 case round =>
  clear HI0
  obtain ⟨acc, z, o, c, rfl, rfl, hz0, hz1, hal, HT, HO, HB⟩ := hrel
  have hle := HB.out.size
  have HXr := hid ((HB.out.block _ (Array.getElem?_eq_some_iff.1 HX.out).1).trans HX.out)
  have K := hid (pick_any wr (HL.out.below HB.out) s (by omega) z may hmay _ l (HV.out.below HB.out) hl)
  have HPP := hid (fun h => X7.pick_pos D (LL s) z may l h)
  have HS := hid (show X7.allX D (LL s) may l (s.size + 1) z = if (X7.pickX D (LL s) z may l).1 < 0 then ([], z) else ((B1.bitN (X7.pickX D (LL s) z may l).1, (X7.pickX D (LL s) z may l).2) :: (X7.allX D (LL s) may l s.size (X7.pickX D (LL s) z may l).2).1, (X7.allX D (LL s) may l s.size (X7.pickX D (LL s) z may l).2).2) from rfl)
  obtain ⟨n, hn⟩ : ∃ n : Int, (X7.pickX D (LL s) z may l).1 = n := ⟨_, rfl⟩
  obtain ⟨z2, hz2⟩ : ∃ z2 : Int, (X7.pickX D (LL s) z may l).2 = z2 := ⟨_, rfl⟩
  rw [hn, hz2] at K HPP HS
  clear hn hz2
  go_wp2_with fail
  refine wp_load30' (.tmp 4) rfl w.heap.size rfl dd HXr.out HSZ.out.1 ?_
  go_wp2_with fail
  refine K.out.mono ?_
  rintro e w2 ⟨rfl, hb2⟩
  have HB2 := hid (HB.out.trans (hb2.mono hle))
  have HO2 := hid (own2_below HO.out hb2)
  have hle2 := HB2.out.size
  clear K hb2
  by_cases hn0 : n < 0
  ·have hT := HT.out
   rw [HS.out, if_pos hn0, List.append_nil] at hT
   obtain ⟨hT1, hT2⟩ := hT
   have hT2' : z = T.2 := hT2
   go_wp2_with fail
   refine bodyPost_ret (results_tmp2 rfl _ _ _) rfl ?_
   refine ⟨o, c, ?_, ?_, HB1.out.trans (HB2.out.mono hsw1)⟩
   ·rw [← hT1, ← hT2']; rfl
   ·rw [← hT1]
    exact ⟨HO2.out.1, HO2.out.2.imp id fun ⟨g, cap, cur, k1, k2, k3⟩ => ⟨g, cap, cur, k1, Nat.le_trans hsw1 k2, k3⟩⟩
  ·have hp := HPP.out (by omega)
   rw [HLs.out] at hp
   obtain ⟨w3, e3⟩ : ∃ w3, w2.alloc (.cells #[.int .i64 n] 3) = w3 := ⟨_, rfl⟩
   have hb3 : Below w2.heap.size w2 w3 := by rw [← e3]; exact (Below.refl _ _).alloc (Nat.le_refl _) _
   have n3 : w3.heap[w2.heap.size]? = some (.cells #[.int .i64 n] 3 (0, 0)) := by rw [← e3]; exact new_block _ _
   have KO := hid (B1.Of_some w2.heap.size 0 1 [n] w3 (by simp) (fun i hi => by
    have : i = 0 := by simpa using hi
    subst this
    exact Lib.cell_of_heap n3 0))
   have hof : B1.ofN [n] = B1.bitN n := by unfold B1.ofN; simp
   rw [hof] at KO
   have HB3 := hid (HB2.out.trans (hb3.mono hle2))
   have HO3 := hid (own2_below HO2.out hb3)
   obtain ⟨w4, e4⟩ : ∃ w4, w3.alloc (.cells #[.int .u64 (B1.bitN n : Int), .int .i64 z2] 61) = w4 := ⟨_, rfl⟩
   have hb4 : Below w3.heap.size w3 w4 := by rw [← e4]; exact (Below.refl _ _).alloc (Nat.le_refl _) _
   have HN4 := hid (show w4.heap[w3.heap.size]? = some (.cells #[.int .u64 (B1.bitN n : Int), .int .i64 z2] 61 (0, 0)) from by rw [← e4]; exact new_block _ _)
   have HB4 := hid (HB3.out.trans (hb4.mono HB3.out.size))
   have HO4 := hid (own2_below HO3.out hb4)
   have hle4 := HB4.out.size
   clear hb3 n3 hof hb4
   go_wp2_with fail
   refine KO.out.mono ?_
   rintro e w' ⟨rfl, rfl⟩
   clear KO
   go_wp2_with (at_builtin; refine wpList_push61 rfl (.tmp 27) (.tmp 33) rfl w1.heap.size (.slice o acc.length c) acc.length (pcells acc) rfl HO4.out w3.heap.size rfl (B1.bitN n : Int) z2 HN4.out (by omega) hle4 ?_)
   intro v5 w5 hown hg hat
   obtain ⟨o5, c5, rfl⟩ := own2_shape hown
   have HB5 := hid (HB4.out.grown hg hle4 (fun k e => (own2_lt HO4.out k e).1))
   have hpl : pcells acc ++ [.int .u64 (B1.bitN n : Int), .int .i64 z2] = pcells (acc ++ [(B1.bitN n, z2)]) := (pcells_snoc acc (B1.bitN n, z2)).symm
   rw [hpl] at hown
   have HO5 := hid hown
   have HT5 := hid (show (acc ++ [(B1.bitN n, z2)]) ++ (X7.allX D (LL s) may l (s.size + 1) z2).1 = T.1 ∧ (X7.allX D (LL s) may l (s.size + 1) z2).2 = T.2 from by
    have hT := HT.out
    rw [HS.out, if_neg (by omega)] at hT
    rw [X7.all_fuel D (LL s) may l (s.size + 1) s.size z2 (by rw [HLs.out]; omega) (by rw [HLs.out]; omega) (by omega) (by rw [HLs.out]; omega)]
    obtain ⟨hT1, hT2⟩ := hT
    exact ⟨by rw [List.append_assoc]; exact hT1, hT2⟩)
   clear hown hg hat hpl e3 e4
   go_wp2_with fail
   refine ⟨⟨acc ++ [(B1.bitN n, z2)], z2, o5, c5, by rw [List.length_append]; rfl, rfl, by omega, by omega, by rw [List.length_append, List.length_singleton]; omega, HT5, by rw [List.length_append]; exact HO5, HB5⟩, ?_⟩
   show s.size - (z2).toNat < s.size - (z).toNat
   omega
end Go.Proofs.YtochckefnjobhaaGreatDoor
namespace Go.Proofs.YtochckefnjobhaaGreatDoor
open Go Go.RowKit Go.Lib
open X3 (RX Mt MtL)
open X5 (Aut)
open X7 (fX lgX lastX pickX allT allX oneX winX)
set_option linter.unusedVariables false
set_option linter.unusedSimpArgs false
abbrev exZ : RX := .bytes 0 576460743713488896 0 0
abbrev exI : RX := .bytes 0 2199023255552 0 0
abbrev exF : RX := .bytes 0 274877906944 0 0
abbrev exP : RX := .cat [exZ, .star exZ]
abbrev exQ : RX := .cat [exI, exF]
abbrev ex7L : List RX := [exP, exQ]
theorem ex7_p1 : X3.parseX [91, 97, 45, 122, 93, 43] = .inr exP := by rfl
theorem ex7_p2 : X3.parseX [105, 102] = .inr exQ := by rfl
theorem ex7_parses : parsesX [⟨#[91, 97, 45, 122, 93, 43]⟩, ⟨#[105, 102]⟩] = .inr ex7L := by
 have h1 : peX ⟨#[91, 97, 45, 122, 93, 43]⟩ = some exP := by
  unfold peX
  rw [show LL ⟨#[91, 97, 45, 122, 93, 43]⟩ = [91, 97, 45, 122, 93, 43] from rfl, ex7_p1]
 have h2 : peX ⟨#[105, 102]⟩ = some exQ := by
  unfold peX
  rw [show LL ⟨#[105, 102]⟩ = [105, 102] from rfl, ex7_p2]
 simp only [parsesX, h1, h2]
theorem ex7_few : ¬ many ex7L := by
 unfold many
 decide
theorem ex7_big : ¬ Big ex7L := not_big (by decide +kernel)
theorem z_i : Mt exZ [105] := .byte _ _ _ _ 105 (by decide)
theorem z_f : Mt exZ [102] := .byte _ _ _ _ 102 (by decide)
theorem z_s : ∀ {s : List UInt8}, Mt exZ s → ∃ b : UInt8, s = [b] ∧ b ≠ 33 := by
 intro s h
 cases h with
 | byte _ _ _ _ x h =>
  refine ⟨x, rfl, fun e => ?_⟩
  subst e
  exact absurd h (by decide)
theorem z_star {s : List UInt8} {r : RX} (h : Mt r s) (e : r = .star exZ) : (33 : UInt8) ∉ s := by
 obtain ⟨L, hL, rfl⟩ := X3.star_list h e
 intro hm
 obtain ⟨t, ht, hb⟩ := List.mem_flatten.1 hm
 obtain ⟨b, rfl, hne⟩ := z_s (hL t ht)
 exact hne (List.mem_singleton.1 hb).symm
theorem p_none {s : List UInt8} (h : Mt exP s) : (33 : UInt8) ∉ s := by
 cases h with
 | cat _ _ h =>
  cases h with
  | cons _ _ a b h1 h2 =>
   obtain ⟨x, rfl, hne⟩ := z_s h1
   cases h2 with
   | cons _ _ a b h3 h4 =>
    cases h4
    intro hm
    rcases List.mem_append.1 hm with hm | hm
    ·exact hne (List.mem_singleton.1 hm).symm
    ·rw [List.append_nil] at hm
     exact z_star h3 rfl hm
theorem star_f : Mt (.star exZ) [102] := .star1 _ [102] [] z_f (.star0 _)
theorem star_ff : Mt (.star exZ) [102, 102] := .star1 _ [102] [102] z_f star_f
theorem p_if : Mt exP [105, 102] := .cat _ _ (.cons _ _ [105] [102] z_i (.cons _ _ [102] [] star_f .nil))
theorem p_iff : Mt exP [105, 102, 102] := .cat _ _ (.cons _ _ [105] [102, 102] z_i (.cons _ _ [102, 102] [] star_ff .nil))
theorem one_of {k : Nat} {s : List UInt8} {a b c d : Nat} (h : Mt (.bytes a b c d) s) : ∃ x, s = [x] := by
 cases h with
 | byte _ _ _ _ x h => exact ⟨x, rfl⟩
theorem q_two {s : List UInt8} (h : Mt exQ s) : s.length = 2 := by
 cases h with
 | cat _ _ h =>
  cases h with
  | cons _ _ a b h1 h2 =>
   obtain ⟨x, rfl⟩ := one_of (k := 0) h1
   cases h2 with
   | cons _ _ a b h3 h4 =>
    obtain ⟨y, rfl⟩ := one_of (k := 0) h3
    cases h4
    rfl
theorem q_if : Mt exQ [105, 102] := .cat _ _ (.cons _ _ [105] [102] (.byte _ _ _ _ 105 (by decide)) (.cons _ _ [102] [] (.byte _ _ _ _ 102 (by decide)) .nil))
theorem run7 {s : List UInt8} {R : Nat} (hR : R < 4) (h0 : R.testBit 0 = true ↔ Mt exP s) (h1 : R.testBit 1 = true ↔ Mt exQ s) : RunR ex7L s R := by
 refine ⟨by omega, fun i => ?_⟩
 match i with
 | 0 => rw [h0]; exact ⟨fun h => ⟨_, rfl, h⟩, fun ⟨r, hr, h⟩ => by obtain rfl : exP = r := Option.some.inj hr; exact h⟩
 | 1 => rw [h1]; exact ⟨fun h => ⟨_, rfl, h⟩, fun ⟨r, hr, h⟩ => by obtain rfl : exQ = r := Option.some.inj hr; exact h⟩
 | i + 2 =>
  refine ⟨fun h => ?_, fun ⟨r, hr, _⟩ => by simp at hr⟩
  have : R.testBit (i + 2) = false := Nat.testBit_lt_two_pow (Nat.lt_of_lt_of_le hR (by
   rw [Nat.pow_add]
   have := Nat.one_le_two_pow (n := i)
   omega))
  rw [this] at h; cases h
theorem run_if : RunR ex7L [105, 102] 3 := run7 (by decide) ⟨fun _ => p_if, fun _ => by decide⟩ ⟨fun _ => q_if, fun _ => by decide⟩
theorem run_iff : RunR ex7L [105, 102, 102] 1 := run7 (by decide) ⟨fun _ => p_iff, fun _ => by decide⟩ ⟨fun h => absurd h (by decide), fun h => absurd (q_two h) (by decide)⟩
theorem run_no : RunR ex7L [105, 102, 33] 0 := run7 (by decide) ⟨fun h => absurd h (by decide), fun h => absurd (by simp) (p_none h)⟩ ⟨fun h => absurd h (by decide), fun h => absurd (q_two h) (by decide)⟩
def Ex7 (M : Aut) : Prop := ∀ (s : List UInt8) (R : Nat), RunR ex7L s R → X5.runX M s = R
theorem ex7_f {M : Aut} (h : Ex7 M) (t u : List UInt8) (R may n : Nat) (e : t.take n = u) (hr : RunR ex7L u R) : fX M t 0 may n = R &&& may := by
 unfold fX
 rw [List.drop_zero, e, h u R hr]
theorem lg_if {M : Aut} (h : Ex7 M) : lgX M [105, 102] 0 3 = (3, 2) := by
 have h2 := ex7_f h [105, 102] [105, 102] 3 3 2 rfl run_if
 unfold lgX
 rw [if_neg (by decide)]
 show ((lastX M [105, 102] 0 3 2).1, ((lastX M [105, 102] 0 3 2).2 : Int)) = _
 rw [lastX, h2, if_pos (by decide)]
 rfl
theorem lg_iff {M : Aut} (h : Ex7 M) : lgX M [105, 102, 102] 0 3 = (1, 3) := by
 have h3 := ex7_f h [105, 102, 102] [105, 102, 102] 1 3 3 rfl run_iff
 unfold lgX
 rw [if_neg (by decide)]
 show ((lastX M [105, 102, 102] 0 3 3).1, ((lastX M [105, 102, 102] 0 3 3).2 : Int)) = _
 rw [lastX, h3, if_pos (by decide)]
 rfl
theorem lg_no {M : Aut} (h : Ex7 M) : lgX M [105, 102, 33] 0 1 = (1, 2) := by
 have h3 := ex7_f h [105, 102, 33] [105, 102, 33] 0 1 3 rfl run_no
 have h2 := ex7_f h [105, 102, 33] [105, 102] 3 1 2 rfl run_if
 unfold lgX
 rw [if_neg (by decide)]
 show ((lastX M [105, 102, 33] 0 1 3).1, ((lastX M [105, 102, 33] 0 1 3).2 : Int)) = _
 rw [lastX, h3, if_neg (by decide), lastX, h2, if_pos (by decide)]
 rfl
theorem pick_if {M : Aut} (h : Ex7 M) : pickX M [105, 102] 0 3 [(1, 0)] = (1, 2) := by
 unfold pickX
 rw [lg_if h]
 decide
theorem pick_iff {M : Aut} (h : Ex7 M) : pickX M [105, 102, 102] 0 3 [(1, 0)] = (0, 3) := by
 unfold pickX
 rw [lg_iff h]
 decide
theorem pick_nil {M : Aut} (h : Ex7 M) : pickX M [105, 102] 0 3 [] = (-1, 2) := by
 unfold pickX
 rw [lg_if h]
 decide
theorem pick_end (M : Aut) : pickX M [105, 102] 2 3 [(1, 0)] = (-1, 2) := by
 have : lgX M [105, 102] 2 3 = (0, 2) := by
  unfold lgX
  rw [if_neg (by decide)]
  rfl
 unfold pickX
 rw [this]
 decide
theorem all_if {M : Aut} (h : Ex7 M) : allT M [105, 102] 3 [(1, 0)] = ([(2, 2)], 2) := by
 unfold allT
 show allX M [105, 102] 3 [(1, 0)] 3 0 = _
 rw [allX, pick_if h]
 show (if (1 : Int) < 0 then _ else ((B1.bitN 1, (2 : Int)) :: (allX M [105, 102] 3 [(1, 0)] 2 2).1, (allX M [105, 102] 3 [(1, 0)] 2 2).2)) = _
 rw [if_neg (by decide), allX, pick_end, if_pos (show ((-1 : Int), (2 : Int)).1 < 0 by decide)]
 rfl
theorem win_ex : winX 3 [(1, 0)] = 2 := by decide
end Go.Proofs.YtochckefnjobhaaGreatDoor
