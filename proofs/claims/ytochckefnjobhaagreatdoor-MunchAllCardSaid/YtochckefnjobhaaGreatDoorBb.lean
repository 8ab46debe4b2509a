/- Sets of numbers: what the calls of bits hand back. -/
import Derived.RangeFuncNested
import Derived.RangeFuncBound
import Derived.RangeFuncLeaves
import Derived.Shelf.Abstract
import Derived.Shelf.RegionOpen
import Derived.WalkKit
import Derived.OwnWalkIn
import Derived.TacticsInMore
import Derived.LoopNIn
import Derived.LoopIn
import Derived.WalkSmall
import Derived.Lib.Hide
import Derived.Outline
import Derived.Test.YtochckefnjobhaaGreatDoorProg
import Derived.Maps.AppendAt
import Derived.Deep.DeepMust
import Derived.Laws.Bits64
import Derived.Laws.Bits64b
namespace Go.Proofs.YtochckefnjobhaaGreatDoor.B1
open Go Go.RowKit
def CellSeq {α : Type} (F : Fence) (n : Nat) (P : Program) (g : Nat) (lb : Array Value) (encs : α → Array Value) (Bs : Nat) (S Sp : List α → Prop) (N : Nat) (w : World) : Prop :=
 ∀ (l : Nat) (J Jx : List α → World → Prop) (W : World), W.heap[Bs]? = w.heap[Bs]? → (∀ s A B, J s A → A.grownBy B (some Bs) → J s B) →
  (∀ pre x W1, J pre W1 → pre.length < N → YieldAt F (n - 1) P l (encs x) W1 fun e W' =>
   (e = .returned (.bool true) ∧ J (pre ++ [x]) W' ∧ W'.heap[Bs]? = W1.heap[Bs]?) ∨ (e = .returned (.bool false) ∧ Jx (pre ++ [x]) W')) →
  J [] W →
  CallsIn F n P g (#[.func (.yield l) #[] #[]] ++ lb) W fun e W' => (∃ v, e = .returned v) ∧ ((∃ xs, S xs ∧ J xs W') ∨ (∃ pre, Sp pre ∧ Jx pre W'))
def cellPost {α : Type} (B Bs : Nat) (I : List α → World → Prop) (Ix : Code → List α → World → Prop) (xs : List α) (W : World) : Exit → Act → World → Prop
 | .normal, _, W' => KeepsFrom B W W' ∧ W'.heap[Bs]? = W.heap[Bs]? ∧ I xs W'
 | .ret, _, W' => KeepsFrom B W W' ∧ Ix .ret xs W'
 | _, _, _ => False
variable {F : Fence} {n : Nat} {P : Program}
set_option maxHeartbeats 1000000 in
theorem wpIn_rangeFunc_cell {α : Type} {g : Operand} {ps : Array Tmp} {assign body : Code} {Q : Exit → Act → World → Prop} {a : Act} {w : World}
  (hro : F.round = none) (h1 : 1 ≤ n) {gf : Nat} {lb : Array Value} (hg : a.eval g = .func (.func gf) #[] lb) (hFg : F.fn gf) (eg : ∀ args w, (callFunc gf args).run P w = .ok (.enter gf args) w)
  {encs : α → Array Value} {Bs : Nat} {S Sp : List α → Prop} {N : Nat} (hseq : CellSeq F (n - 1) P gf lb encs Bs S Sp N w) (hBs : Bs < w.heap.size) (hps : ∀ x, (encs x).size = ps.size)
  (I : List α → World → Prop) (Ix : Code → List α → World → Prop) (hI : OwnFrom w.heap.size I) (hIs : ∀ s A B, I s A → A.grownBy B (some Bs) → I s B) (hIx : ∀ c, OwnFrom w.heap.size (Ix c)) (h0 : I [] w) (a₁ : α → Act)
  (hassign : ∀ (l : Nat) (x : α) (W : World) (K : Act → World → Prop), K (a₁ x) W →
   assign.wpIn (F.inRound l) (n - 1 - 1) P (Exit.then K (fun _ _ _ => False)) { tmps := (ps.zip (encs x)).foldl (fun t (p, v) => t.setIfInBounds p v) a.tmps, defers := [] } W)
  (hbody : ∀ (l : Nat) (pre : List α) (x : α) (W : World), I pre W → pre.length < N → body.wpIn (F.inRound l) (n - 1 - 1) P (cellPost w.heap.size Bs I Ix (pre ++ [x]) W) (a₁ x) W)
  (hdone : ∀ (D : Nat) (xs : List α) (W : World), w.heap.size ≤ D → S xs → I xs W → W.heap[D]? = some (.deferred (some [])) → Q .normal { a with defers := { target := .collected D, args := #[] } :: a.defers } W)
  (hstop : ∀ (D : Nat) (pre : List α) (W : World), w.heap.size ≤ D → Sp pre → Ix .ret pre W → W.heap[D]? = some (.deferred (some [])) → Code.ret.wpIn F n P Q { a with defers := { target := .collected D, args := #[] } :: a.defers } W) :
  (Code.rangeFunc g ps assign body).wpIn F n P Q a w := by
 refine wpIn_rangeFunc ?_
 intro fn hfn
 rw [hro]
 obtain ⟨rec, hrec⟩ : ∃ rec : LoopState → Option Code → Loop, rec = fun st pe => { state := st, pending := pe, fn, tmps := a.tmps, params := ps, assign, body, defers := w.heap.size } := ⟨_, rfl⟩
 obtain ⟨W1, hW1⟩ : ∃ W1, (w.alloc (.deferred (some []))).alloc (.loop (rec .ready none)) = W1 := ⟨_, rfl⟩
 have hL1 : W1.heap[w.heap.size + 1]? = some (.loop (rec .ready none)) := by
  rw [← hW1]; have := World.alloc_heap_new (w.alloc (.deferred (some []))) (.loop (rec .ready none)); rwa [World.size_alloc] at this
 have hK1 : W1.heap[w.heap.size]? = some (.deferred (some [])) := by
  rw [← hW1]; exact (Below.heap_alloc _ _ _ (by simp)).trans (World.alloc_heap_new w _)
 have hB1 : W1.heap[Bs]? = w.heap[Bs]? := by
  rw [← hW1]; exact (Below.heap_alloc _ _ _ (by simp; omega)).trans (Below.heap_alloc _ _ _ hBs)
 have hI1 : I [] W1 := by rw [← hW1]; exact hI.alloc _ (hI.alloc _ h0)
 -- THE TWO BLOCKS OF BOOK-KEEPING LIE ON WHERE THE ITERATOR TURNS ITS OWN CELL
 have keep : ∀ {A B : World} {k : Nat} {o : Obj}, A.grownBy B (some Bs) → w.heap.size ≤ k → A.heap[k]? = some o → B.heap[k]? = some o := fun hgb hk ho =>
  (hgb.block _ (Array.getElem?_eq_some_iff.1 ho).1 (by simp; omega)).trans ho
 refine ⟨w.heap.size + 1, [{ target := .collected w.heap.size, args := #[] }], W1, { target := .fn (.func gf) lb, args := #[.func (.yield (w.heap.size + 1)) #[] #[]] }, W1, gf,
  #[.func (.yield (w.heap.size + 1)) #[] #[]] ++ lb, W1, ?_, ?_, ?_, ?_, fun _ => h1, ?_⟩
 ·rw [← hW1, hrec]; exact run_enterLoop_outer _ _ _ _ _
 ·simp only [resolve, hg]
  simp [go_sem]
 ·intro f' hf'; simp [Target.leads] at hf'; subst hf'; exact hFg
 ·simp [invoke, go_sem, eg]
 ·refine (hseq (w.heap.size + 1)
   (fun pre W => I pre W ∧ W.heap[w.heap.size + 1]? = some (.loop (rec .ready none)) ∧ W.heap[w.heap.size]? = some (.deferred (some [])))
   (fun pre W => Ix .ret pre W ∧ W.heap[w.heap.size + 1]? = some (.loop (rec .done (some .ret))) ∧ W.heap[w.heap.size]? = some (.deferred (some [])))
   W1 hB1
   (fun s A B hs hgb => ⟨hIs s A B hs.1 hgb, keep hgb (by omega) hs.2.1, keep hgb (Nat.le_refl _) hs.2.2⟩)
   ?_ ⟨hI1, hL1, hK1⟩).mono ?_
  ·rintro pre x W ⟨hi, hl, hk⟩ hlen
   have hlt : w.heap.size + 1 < W.heap.size := (Array.getElem?_eq_some_iff.1 hl).1
   have hy := run_yield (P := P) (args := encs x) hl (by rw [hrec]; exact hps x)
   rw [hrec] at hy
   refine ⟨fn, _, assign, body, hy, roundIn_of_wpIn hfn (hassign _ x W _ ⟨_, run_beginRound hl (by rw [hrec]), ?_⟩)⟩
   have hl2 : (W.putObj (w.heap.size + 1) (.loop { rec .ready none with state := .busy })).heap[w.heap.size + 1]? = some (.loop { rec .ready none with state := .busy }) := World.putObj_heap_same hlt
   have hk2 : (W.putObj (w.heap.size + 1) (.loop { rec .ready none with state := .busy })).heap[w.heap.size]? = some (.deferred (some [])) := (World.putObj_heap_other (by omega)).trans hk
   have hb2 : (W.putObj (w.heap.size + 1) (.loop { rec .ready none with state := .busy })).heap[Bs]? = W.heap[Bs]? := World.putObj_heap_other (by omega)
   refine wpIn_mono (hbody _ pre x _ (hI.putObj _ hi (by omega) hl rfl) hlen) ?_
   have fin : ∀ (jump : Option Code) (W3 : World), KeepsFrom w.heap.size (W.putObj (w.heap.size + 1) (.loop { rec .ready none with state := .busy })) W3 →
     (Instr.endRound (w.heap.size + 1) jump).run P W3 = .ok (.bool jump.isNone) (W3.putObj (w.heap.size + 1) (.loop (rec (if jump.isNone then .ready else .done) jump))) ∧
     W3.heap[w.heap.size + 1]? = some (.loop { rec .ready none with state := .busy }) ∧
     (W3.putObj (w.heap.size + 1) (.loop (rec (if jump.isNone then .ready else .done) jump))).heap[w.heap.size + 1]? = some (.loop (rec (if jump.isNone then .ready else .done) jump)) ∧
     (W3.putObj (w.heap.size + 1) (.loop (rec (if jump.isNone then .ready else .done) jump))).heap[w.heap.size]? = some (.deferred (some [])) := fun jump W3 hk3 => by
    have hl3 := hk3.same _ _ (by omega) hl2 rfl
    have := run_endRound (P := P) jump hl3
    rw [hrec] at this ⊢
    exact ⟨this, by rw [hrec] at hl3; exact hl3, World.putObj_heap_same (Array.getElem?_eq_some_iff.1 hl3).1, (World.putObj_heap_other (by omega)).trans (hk3.same _ _ (Nat.le_refl _) hk2 rfl)⟩
   rintro e a3 W3 hp
   cases e with
   | normal =>
    obtain ⟨hk3, hkp3, hi3⟩ := hp
    obtain ⟨hr, hl3, hl4, hk4⟩ := fin none W3 hk3
    exact ⟨_, _, hr, .inl ⟨rfl, ⟨hI.putObj _ hi3 (by omega) hl3 rfl, hl4, hk4⟩, (World.putObj_heap_other (by omega)).trans (hkp3.trans hb2)⟩⟩
   | ret =>
    obtain ⟨hk3, hi3⟩ := hp
    obtain ⟨hr, hl3, hl4, hk4⟩ := fin (some .ret) W3 hk3
    exact ⟨_, _, hr, .inr ⟨rfl, (hIx _).putObj _ hi3 (by omega) hl3 rfl, hl4, hk4⟩⟩
   | exit id => exact hp.elim
   | goto t => exact hp.elim
   | panic ch => exact hp.elim
   | outgrown => exact hp.elim
  ·rintro e W2 ⟨⟨v, rfl⟩, (⟨xs, hS, hi, hl, hk⟩ | ⟨pre, hSp, hi, hl, hk⟩)⟩
   ·exact ⟨none, _, by have := run_endLoop (P := P) hl (by rw [hrec]; simp); rw [hrec] at this; exact this, hdone _ xs _ (Nat.le_refl _) hS (hI.putObj _ hi (by omega) hl rfl) ((World.putObj_heap_other (by omega)).trans hk)⟩
   ·exact ⟨some .ret, _, by have := run_endLoop (P := P) hl (by rw [hrec]; simp); rw [hrec] at this; exact this, hstop _ pre _ (Nat.le_refl _) hSp ((hIx .ret).putObj _ hi (by omega) hl rfl) ((World.putObj_heap_other (by omega)).trans hk)⟩
end Go.Proofs.YtochckefnjobhaaGreatDoor.B1
namespace Go.Proofs.YtochckefnjobhaaGreatDoor.B1
def upto (s k : Nat) : List Nat := (List.range k).filter fun i => s.testBit i
theorem upto_hit {s k : Nat} (h : s.testBit k = true) : upto s (k + 1) = upto s k ++ [k] := by
 simp [upto, List.range_succ, h]
theorem upto_miss {s k : Nat} (h : s.testBit k = false) : upto s (k + 1) = upto s k := by
 simp [upto, List.range_succ, h]
theorem upto_length (s k : Nat) : (upto s k).length ≤ k := by
 have := List.length_filter_le (fun i => s.testBit i) (List.range k)
 simpa [upto] using this
theorem shr_zero_testBit {s k i : Nat} (h : s >>> k = 0) (hi : k ≤ i) : s.testBit i = false := by
 have : (s >>> k).testBit (i - k) = false := by rw [h]; simp
 rw [Nat.testBit_shiftRight] at this
 rwa [show k + (i - k) = i by omega] at this
theorem upto_more {s k : Nat} (h : s >>> k = 0) (d : Nat) : upto s (k + d) = upto s k := by
 induction d with
 | zero => rfl
 | succ d ih => rw [← Nat.add_assoc, upto_miss (shr_zero_testBit h (by omega)), ih]
theorem upto_all {s k : Nat} (h : s >>> k = 0) (hk : k ≤ 64) : upto s k = upto s 64 := by
 rw [show 64 = k + (64 - k) by omega, upto_more h]
theorem shr_lt {s k : Nat} (hs : s < 18446744073709551616) (h : s >>> k ≠ 0) : k < 64 := by
 apply Decidable.byContradiction
 intro hk
 apply h
 rw [Nat.shiftRight_eq_div_pow]
 apply Nat.div_eq_of_lt
 calc s < 2 ^ 64 := hs
  _ ≤ 2 ^ k := Nat.pow_le_pow_right (by omega) (by omega)
theorem upto_prefix (s k : Nat) (hk : k ≤ 64) : upto s k <+: upto s 64 := by
 have : ∀ d, upto s k <+: upto s (k + d) := by
  intro d
  induction d with
  | zero => exact List.prefix_refl _
  | succ d ih =>
   refine ih.trans ?_
   rw [← Nat.add_assoc]
   cases h : s.testBit (k + d)
   ·rw [upto_miss h]; exact List.prefix_refl _
   ·rw [upto_hit h]; exact List.prefix_append _ _
 have := this (64 - k)
 rwa [show k + (64 - k) = 64 by omega] at this
theorem shr_one (s k : Nat) : s >>> k >>> 1 = s >>> (k + 1) := by rw [← Nat.shiftRight_add]
theorem testBit_shr (s k : Nat) : s.testBit k = decide (s >>> k % 2 = 1) := by
 rw [Nat.testBit_eq_decide_div_mod_eq, Nat.shiftRight_eq_div_pow]
end Go.Proofs.YtochckefnjobhaaGreatDoor.B1
namespace Go.Proofs.YtochckefnjobhaaGreatDoor.B1
open Go Go.RowKit Go.Shelf Go.Lib
attribute [local go_sem] Oper.semAt_some
set_option maxRecDepth 100000 in
set_option maxHeartbeats 1000000 in
theorem each_in (F : Fence) (n : Nat) (h45 : F.fn 69) (hro : F.round = none) (s : Int) (w : World) :
  CallsIn F n Tryz.prog 69 #[.int .u64 s] w fun e w' => e = .returned (.func (.func 91) #[] #[.pointer (some ⟨w.heap.size, 0, none⟩)]) ∧ w' = w.alloc (.cells #[.int .u64 s] 54) := by
 refine callsIn_of_wp Tryz.func69 rfl h45 ?_ hro
 simp only [Tryz.ntmps69, List.size_toArray, List.length_cons, List.length_nil, Nat.reduceAdd, Nat.reduceSub, Array.replicate_succ, Array.replicate_zero, List.push_toArray, List.append_toArray, List.nil_append, List.cons_append]
 gi_wp2
 go_ret
 exact ⟨rfl, rfl⟩
theorem boxed_half {W : World} {Bs s k t : Nat} (h : Boxed W Bs 54 (.int .u64 (t : Int))) (ht : t = s >>> k) :
  Boxed (W.setCell ⟨Bs, 0, none⟩ (.int .u64 ((t : Int) / 2))).drew Bs 54 (.int .u64 ((s >>> (k + 1) : Nat) : Int)) := by
 have e : ((t : Int) / 2) = ((s >>> (k + 1) : Nat) : Int) := by
  rw [← shr_one, ← ht, Nat.shiftRight_eq_div_pow]; omega
 rw [e]
 exact Boxed.set (.int .u64 ((s >>> (k + 1) : Nat) : Int)) h
theorem grown_half (W : World) (Bs : Nat) (v : Value) : W.grownBy (W.setCell ⟨Bs, 0, none⟩ v).drew (some Bs) :=
 ⟨rfl, rfl, rfl, (grownBy_setCell' W Bs v).size, (grownBy_setCell' W Bs v).block⟩
set_option maxRecDepth 100000 in
set_option maxHeartbeats 1000000 in
theorem each1_seq (F : Fence) (n : Nat) (h51 : F.fn 91) (hro : F.round = none) (hn : 1 ≤ n) (Bs s : Nat) (hs : s < 18446744073709551616) (w : World) (hb : Boxed w Bs 54 (.int .u64 (s : Int))) :
  CellSeq F n Tryz.prog 91 #[.pointer (some ⟨Bs, 0, none⟩)] (fun k : Nat => #[Value.int .i64 (k : Int)]) Bs (fun xs => xs = upto s 64) (fun pre => pre <+: upto s 64) 64 w := fun l J Jx W hW hJ hY h0 => by
 refine callsIn_of_wp Tryz.func91 rfl h51 ?_ hro
 simp only [Tryz.ntmps91, List.size_toArray, List.length_cons, List.length_nil, Nat.reduceAdd, Nat.reduceSub, Array.replicate_succ, Array.replicate_zero, List.push_toArray, List.append_toArray, List.nil_append, List.cons_append]
 gi_wp2
 gi_loopw [3] (fun i wr => ∃ k : Nat, k ≤ 64 ∧ i = .int .i64 (k : Int) ∧ Boxed wr Bs 54 (.int .u64 ((s >>> k : Nat) : Int)) ∧ J (upto s k) wr)
  (fun i _ => 64 - (intOf i).toNat)
 case atStart =>
  exact ⟨0, by omega, rfl, hW.trans hb, h0⟩
 case round =>
  obtain ⟨k, hk, rfl, hbx, hj⟩ := hrel
  obtain ⟨t, ht⟩ : ∃ t : Nat, t = s >>> k := ⟨_, rfl⟩
  rw [← ht] at hbx
  have hc := hbx.cell
  have hfz := hbx.frozen
  have hbit := testBit_shr s k
  rw [← ht] at hbit
  have htb : t ≤ 18446744073709551615 := by rw [ht, Nat.shiftRight_eq_div_pow]; have := Nat.div_le_self s (2 ^ k); omega
  have hand := and_one_u64 (t : Int) (by omega) (by omega)
  by_cases hz : t = 0
  ·have T0 : ((t : Int) != 0) = false := by simp [hz]
   have HT := hid ht; clear ht
   have HB := hid hbit; clear hbit
   have HA := hid hand; clear hand
   have HZ := hid hz; clear hz
   gi_wp2
   go_end0
   exact ⟨⟨_, rfl⟩, .inl ⟨_, upto_all (by rw [← HT.out, HZ.out]) hk, hj⟩⟩
  ·have hk2 : k < 64 := shr_lt hs (by rw [← ht]; exact hz)
   have T0 : ((t : Int) != 0) = true := by simp [hz]
   have hlen := upto_length s k
   by_cases h1 : t % 2 = 1
   ·have T1 : (bits BinOp.and IntKind.u64 (t : Int) 1 == 1) = true := by rw [hand]; simp; omega
    obtain ⟨fn, tmps, assign, body, hy, hR⟩ := hY (upto s k) k wr hj (by omega)
    rw [← upto_hit (by rw [hbit]; simp [h1])] at hR
    have HT := hid ht; clear ht
    have HB := hid hbit; clear hbit
    have HA := hid hand; clear hand
    have H1 := hid h1; clear h1
    gi_wp2
    refine hR.mono ?_
    rintro e W3 (⟨rfl, hJ3, hk3⟩ | ⟨rfl, hJx3⟩)
    ·have hb3 : Boxed W3 Bs 54 (.int .u64 (t : Int)) := hk3.trans hbx
     have hc3 := hb3.cell
     have hfz3 := hb3.frozen
     have HK3 := hid hk3; clear hk3
     gi_wp2
     gi_region
     all_goals
      rw [show IntKind.i64.wrap ((k : Int) + 1) = ((k + 1 : Nat) : Int) from IntWalk.i64_in _ (by omega)]
      go_roundw
      case rel => (repeat apply Exists.intro); exact ⟨⟨k + 1, by omega, rfl, boxed_half hb3 (HT.out), hJ _ _ _ hJ3 (grown_half W3 Bs _)⟩, rfl⟩
      case measure => simp [intOf]; omega
    ·gi_wp2
     refine bodyPost_ret (results_none rfl _ _ _) rfl ?_
     exact ⟨⟨_, rfl⟩, .inr ⟨_, upto_prefix s (k + 1) (by omega), hJx3⟩⟩
   ·have T1 : (bits BinOp.and IntKind.u64 (t : Int) 1 == 1) = false := by rw [hand]; simp; omega
    have HT := hid ht; clear ht
    have HB := hid hbit; clear hbit
    have HA := hid hand; clear hand
    have H1 := hid h1; clear h1
    gi_wp2
    refine ⟨fun _ h => (by cases h), ?_⟩
    gi_wp2
    gi_region
    all_goals
     rw [show IntKind.i64.wrap ((k : Int) + 1) = ((k + 1 : Nat) : Int) from IntWalk.i64_in _ (by omega)]
     go_roundw
     case rel => (repeat apply Exists.intro); exact ⟨⟨k + 1, by omega, rfl, boxed_half hbx (HT.out), hJ _ _ _ (by rw [upto_miss (by rw [HB.out]; simpa using H1.out)]; exact hj) (grown_half wr Bs _)⟩, rfl⟩
     case measure => simp [intOf]; omega
end Go.Proofs.YtochckefnjobhaaGreatDoor.B1
namespace Go.Proofs.YtochckefnjobhaaGreatDoor.B1
open Go Go.RowKit Go.Shelf Go.Lib
attribute [local go_sem] Oper.semAt_some
theorem info3 : (Tryz.prog.info? 3).map (fun i => (i.zero, i.size, i.bytes)) = some (some (.int .i64 0), 1, 8) := by kernel_rfl
def nums (l : List Nat) : List Value := l.map fun k : Nat => Value.int .i64 (k : Int)
end Go.Proofs.YtochckefnjobhaaGreatDoor.B1
namespace Go.Proofs.YtochckefnjobhaaGreatDoor.B1
open Go Go.RowKit Go.Shelf Go.Lib
attribute [local go_sem] Oper.semAt_some
set_option maxRecDepth 100000 in
set_option maxHeartbeats 2000000 in
theorem Count_in (F : Fence) (n : Nat) (h22 : F.fn 60) (h45 : F.fn 69) (h51 : F.fn 91) (hro : F.round = none) (hn : 3 ≤ n) (s : Nat) (hs : s < 18446744073709551616) (w : World) :
  CallsIn F n Tryz.prog 60 #[.int .u64 (s : Int)] w fun e W' => e = .returned (.int .i64 ((upto s 64).length : Int)) ∧ Below w.heap.size w W' := by
 have h1 : 1 ≤ n := by omega
 refine callsIn_of_wp_marks Tryz.func60 rfl h22 ?_ hro
 simp only [Tryz.ntmps60, List.size_toArray, List.length_cons, List.length_nil, Nat.reduceAdd, Nat.reduceSub, Array.replicate_succ, Array.replicate_zero, List.push_toArray, List.append_toArray, List.nil_append, List.cons_append]
 gi_wp2_with (gi_at_call 69; refine (each_in F (n - 1) h45 hro _ _).mono ?_; rintro e w' ⟨rfl, rfl⟩)
 have bN := Boxed.new (w.alloc (.cells #[.int .i64 0] 3)) 54 (.int .u64 (s : Int))
 have bO := Boxed.new w 3 (.int .i64 0)
 rw [World.size_alloc] at bN
 have hB0 : Below w.heap.size w ((w.alloc (.cells #[.int .i64 0] 3)).alloc (.cells #[.int .u64 (s : Int)] 54)) := ((Below.refl _ w).alloc (Nat.le_refl _) _).alloc (by simp) _
 refine wpIn_rangeFunc_cell hro h1 (gf := 91) (lb := #[.pointer (some ⟨w.heap.size + 1, 0, none⟩)]) rfl h51 (enters_of Tryz.func91 (by kernel_rfl) rfl)
  (each1_seq F (n - 1) h51 hro (by omega) (w.heap.size + 1) s hs _ bN) (by simp) (fun _ => rfl)
  (fun pre W => Boxed W w.heap.size 3 (.int .i64 (pre.length : Int)) ∧ Below w.heap.size w W ∧ w.heap.size + 2 ≤ W.heap.size)
  (fun _ _ _ => False)
  (OwnFrom.and (Own.from (boxed_own w.heap.size 3 (fun pre : List Nat => Value.int .i64 (pre.length : Int))) _) (OwnFrom.and (ownFrom_below (Nat.le_refl _) (by simp; omega)) (fun s A B row hs hg hr => Nat.le_trans hs hg.size)))
  (fun s A B ⟨hv, hB, hz⟩ hg => ⟨hv.kept hg (by simp), hB.grown hg hB.size (fun k e => by cases e; omega), Nat.le_trans hz hg.size⟩)
  (fun _ _ _ _ _ hs _ _ => hs) ⟨bO.alloc _, hB0, by simp⟩
  (fun x => { tmps := #[.int .u64 (s : Int), undef, .int .i64 0, .pointer (some ⟨w.heap.size, 0, none⟩), .int .u64 (s : Int), .func (.func 91) #[] #[.pointer (some ⟨w.heap.size + 1, 0, none⟩)], .int .i64 (x : Int), undef, undef, undef], defers := [] }) ?assign ?body ?done ?stop
 case assign =>
  intro l x W K hK
  gi_wp2
  simpa using hK
 case body =>
  rintro l pre x W ⟨hv, hB, hsz⟩ hlt
  have hc := hv.cell
  have hf := hv.frozen
  gi_wp2
  refine ⟨KeepsFrom.of_grownBy (grownBy_setCell' _ _ _) (fun j e => by cases e; simp; omega), Below.heap_setCell _ _ _ _ (by simp), ?_, hB.setCell (p := ⟨w.heap.size, 0, none⟩) (Nat.le_refl _) _, by have := (grownBy_setCell' W w.heap.size (.int .i64 ((pre.length : Int) + 1))).size; omega⟩
  have := hv.set (.int .i64 ((pre.length : Int) + 1))
  simpa using this
 case done =>
  rintro D ys W hD rfl ⟨hv, hB, _⟩ hK
  have hc := hv.cell
  gi_wp2
  refine ⟨by simp, .inl ⟨_, _, rfl, run_takeDeferred hK, ?_⟩⟩
  exact ⟨_, results_tmp rfl _ _ _, rfl, hB.trans (belowK_b (w := w) (Nat.le_refl _) W D _ _ (by simp at hD; omega) hK rfl rfl)⟩
 case stop =>
  rintro D pre W _ _ h _
  exact h.elim
def firstOf : List Nat → Int
 | [] => -1
 | x :: _ => (x : Int)
set_option maxRecDepth 100000 in
set_option maxHeartbeats 2000000 in
theorem First_in (F : Fence) (n : Nat) (h23 : F.fn 39) (h45 : F.fn 69) (h51 : F.fn 91) (hro : F.round = none) (hn : 3 ≤ n) (s : Nat) (hs : s < 18446744073709551616) (w : World) :
  CallsIn F n Tryz.prog 39 #[.int .u64 (s : Int)] w fun e W' => e = .returned (.int .i64 (firstOf (upto s 64))) ∧ Below w.heap.size w W' := by
 have h1 : 1 ≤ n := by omega
 refine callsIn_of_wp_marks Tryz.func39 rfl h23 ?_ hro
 simp only [Tryz.ntmps39, List.size_toArray, List.length_cons, List.length_nil, Nat.reduceAdd, Nat.reduceSub, Array.replicate_succ, Array.replicate_zero, List.push_toArray, List.append_toArray, List.nil_append, List.cons_append]
 gi_wp2_with (gi_at_call 69; refine (each_in F (n - 1) h45 hro _ _).mono ?_; rintro e w' ⟨rfl, rfl⟩)
 have bN := Boxed.new (w.alloc (.cells #[.int .i64 0] 3)) 54 (.int .u64 (s : Int))
 have bO := Boxed.new w 3 (.int .i64 0)
 rw [World.size_alloc] at bN
 have hB0 : Below w.heap.size w ((w.alloc (.cells #[.int .i64 0] 3)).alloc (.cells #[.int .u64 (s : Int)] 54)) := ((Below.refl _ w).alloc (Nat.le_refl _) _).alloc (by simp) _
 refine wpIn_rangeFunc_cell hro h1 (gf := 91) (lb := #[.pointer (some ⟨w.heap.size + 1, 0, none⟩)]) rfl h51 (enters_of Tryz.func91 (by kernel_rfl) rfl)
  (each1_seq F (n - 1) h51 hro (by omega) (w.heap.size + 1) s hs _ bN) (by simp) (fun _ => rfl)
  (fun pre W => pre = [] ∧ Boxed W w.heap.size 3 (.int .i64 0) ∧ Below w.heap.size w W)
  (fun _ pre W => ∃ x : Nat, pre = [x] ∧ Boxed W w.heap.size 3 (.int .i64 (x : Int)) ∧ Below w.heap.size w W)
  (OwnFrom.and (ownFrom_pure _ (fun pre => pre = [])) (OwnFrom.and (Own.from (boxed_own w.heap.size 3 (fun _ : List Nat => Value.int .i64 0)) _) (ownFrom_below (Nat.le_refl _) (by simp; omega))))
  (fun s A B ⟨hp, hv, hB⟩ hg => ⟨hp, hv.kept hg (by simp), hB.grown hg hB.size (fun k e => by cases e; omega)⟩)
  (fun c s A B row ⟨x, hp, hv, hB⟩ hg hr => ⟨x, hp, boxed_own w.heap.size 3 (fun _ : Unit => Value.int .i64 (x : Int)) () A B row hv hg (fun r e => (hr r e).2), ownFrom_below (β := Unit) (Nat.le_refl _) (by simp; omega) () A B row hB hg hr⟩)
  ⟨rfl, bO.alloc _, hB0⟩
  (fun x => { tmps := #[.int .u64 (s : Int), undef, .pointer (some ⟨w.heap.size, 0, none⟩), .int .i64 (x : Int), .int .u64 (s : Int), .func (.func 91) #[] #[.pointer (some ⟨w.heap.size + 1, 0, none⟩)], .int .i64 (x : Int), undef], defers := [] }) ?assign ?body ?done ?stop
 case assign =>
  intro l x W K hK
  gi_wp2
  exact hK
 case body =>
  rintro l pre x W ⟨rfl, hv, hB⟩ hlt
  have hc := hv.cell
  have hf := hv.frozen
  gi_wp2
  exact ⟨KeepsFrom.of_grownBy (grownBy_setCell' _ _ _) (fun j e => by cases e; simp; omega), x, rfl, hv.set _, hB.setCell (p := ⟨w.heap.size, 0, none⟩) (Nat.le_refl _) _⟩
 case done =>
  rintro D ys W hD rfl ⟨hp, hv, hB⟩ hK
  have hc := hv.cell
  have hf := hv.frozen
  have hne : D ≠ w.heap.size := by simp at hD; omega
  gi_wp2
  have hK2 : (W.setCell ⟨w.heap.size, 0, none⟩ (.int .i64 (-1))).heap[D]? = some (.deferred (some [])) := (Below.heap_setCell _ _ _ _ hne).trans hK
  refine ⟨by simp, .inl ⟨_, _, rfl, run_takeDeferred hK2, ?_⟩⟩
  have hc5 := cell_kept (hv.set (.int .i64 (-1))).cell (grownBy_putObj' _ D (.deferred none)) (fun r e => by cases e; exact ⟨_, hK2, rfl⟩)
  refine ⟨.int .i64 (-1), ?_, by rw [hp]; rfl, (hB.setCell (p := ⟨w.heap.size, 0, none⟩) (Nat.le_refl _) _).trans (belowK_b (w := w) (Nat.le_refl _) _ D _ _ (by simp at hD; omega) hK2 rfl rfl)⟩
  simp [results, Tryz.f39, go_sem, hc5]
 case stop =>
  rintro D pre W hD hpre ⟨x, rfl, hv, hB⟩ hK
  gi_wp2
  refine ⟨by simp, .inl ⟨_, _, rfl, run_takeDeferred hK, ?_⟩⟩
  have hc5 := cell_kept hv.cell (grownBy_putObj' _ D (.deferred none)) (fun r e => by cases e; exact ⟨_, hK, rfl⟩)
  obtain ⟨ys, hy⟩ := hpre
  refine ⟨.int .i64 (x : Int), ?_, by rw [← hy]; rfl, hB.trans (belowK_b (w := w) (Nat.le_refl _) W D _ _ (by simp at hD; omega) hK rfl rfl)⟩
  simp [results, Tryz.f39, go_sem, hc5]
end Go.Proofs.YtochckefnjobhaaGreatDoor.B1
namespace Go.Proofs.YtochckefnjobhaaGreatDoor.B1
def bitN (n : Int) : Nat := if 0 ≤ n ∧ n < 64 then 2 ^ n.toNat else 0
def lessN (a b : Nat) : Nat := a ^^^ (a &&& b)
theorem bitN_lt (n : Int) : bitN n < 18446744073709551616 := by
 unfold bitN
 split
 ·rename_i h
  exact Nat.pow_lt_pow_right (by omega) (by omega : n.toNat < 64)
 ·omega
theorem testBit_bitN (n : Int) (i : Nat) : (bitN n).testBit i = decide (0 ≤ n ∧ n < 64 ∧ (i : Int) = n) := by
 unfold bitN
 split
 ·rename_i h
  rw [Nat.testBit_two_pow]
  by_cases e : n.toNat = i
  ·have : (i : Int) = n := by omega
   simp [e, this, h.1, h.2]
  ·have : ¬ (i : Int) = n := by omega
   simp [e, this]
 ·rename_i h
  simp
  omega
theorem testBit_lessN (a b i : Nat) : (lessN a b).testBit i = (a.testBit i && !b.testBit i) := by
 simp [lessN, Nat.testBit_xor, Nat.testBit_and]
 cases a.testBit i <;> cases b.testBit i <;> rfl
theorem lessN_lt {a : Nat} (h : a < 18446744073709551616) (b : Nat) : lessN a b < 18446744073709551616 :=
 Nat.xor_lt_two_pow (n := 64) h (Nat.lt_of_le_of_lt Nat.and_le_left h)
theorem or_lt {a b : Nat} (ha : a < 18446744073709551616) (hb : b < 18446744073709551616) : a ||| b < 18446744073709551616 :=
 Nat.or_lt_two_pow (n := 64) ha hb
theorem testBit_hi {a i : Nat} (ha : a < 18446744073709551616) (hi : 64 ≤ i) : a.testBit i = false :=
 Nat.testBit_lt_two_pow (Nat.lt_of_lt_of_le (show a < 2 ^ 64 from ha) (Nat.pow_le_pow_right (by omega) hi))
theorem set_ext {a b : Nat} (ha : a < 18446744073709551616) (hb : b < 18446744073709551616) (h : ∀ i, i < 64 → a.testBit i = b.testBit i) : a = b :=
 Nat.eq_of_testBit_eq fun i => by
  by_cases hi : i < 64
  ·exact h i hi
  ·rw [testBit_hi ha (by omega), testBit_hi hb (by omega)]
theorem and_bitN_ne (a : Nat) (n : Int) : (a &&& bitN n ≠ 0) ↔ (0 ≤ n ∧ n < 64 ∧ a.testBit n.toNat = true) := by
 constructor
 ·intro h
  have : ∃ i, (a &&& bitN n).testBit i = true := Classical.byContradiction fun hn => h (Nat.eq_of_testBit_eq fun i => by
   rw [Nat.zero_testBit]; cases e : (a &&& bitN n).testBit i
   ·rfl
   ·exact absurd ⟨i, e⟩ hn)
  obtain ⟨i, hi⟩ := this
  rw [Nat.testBit_and, testBit_bitN] at hi
  simp at hi
  obtain ⟨h1, h2, h3, h4⟩ := hi
  refine ⟨h2, h3, ?_⟩
  rw [show n.toNat = i by omega]; exact h1
 ·rintro ⟨h1, h2, h3⟩ h
  have : (a &&& bitN n).testBit n.toNat = true := by
   rw [Nat.testBit_and, testBit_bitN, h3]; simp; omega
  rw [h] at this; simp at this
theorem mem_upto {s i : Nat} : i ∈ upto s 64 ↔ i < 64 ∧ s.testBit i = true := by simp [upto]
theorem upto_nil_iff {a : Nat} (ha : a < 18446744073709551616) : upto a 64 = [] ↔ a = 0 := by
 constructor
 ·intro h
  refine set_ext ha (by omega) fun i hi => ?_
  have : i ∉ upto a 64 := by rw [h]; simp
  rw [mem_upto] at this
  simp; cases e : a.testBit i
  ·rfl
  ·exact absurd ⟨hi, e⟩ this
 ·rintro rfl; simp [upto]
end Go.Proofs.YtochckefnjobhaaGreatDoor.B1
namespace Go.Proofs.YtochckefnjobhaaGreatDoor.B1
open Go Go.RowKit Go.Shelf Go.Lib
abbrev u64 (n : Nat) : Value := .int .u64 (n : Int)
theorem bits_andNot_u64_nat (a b : Nat) (ha : a < 18446744073709551616) (hb : b < 18446744073709551616) :
  bits .andNot .u64 (a : Int) (b : Int) = ((lessN a b : Nat) : Int) := by
 have hx := lessN_lt ha b
 have h1 : (BitVec.ofInt 64 (a : Int)).toNat = a := by
  rw [BitVec.ofInt_natCast, BitVec.toNat_ofNat]; exact Nat.mod_eq_of_lt (by omega)
 have h2 : (BitVec.ofInt 64 (b : Int)).toNat = b := by
  rw [BitVec.ofInt_natCast, BitVec.toNat_ofNat]; exact Nat.mod_eq_of_lt (by omega)
 have h3 : (BitVec.ofInt 64 (a : Int) &&& ~~~(BitVec.ofInt 64 (b : Int))).toNat = lessN a b := by
  refine set_ext (BitVec.isLt _) hx fun i hi => ?_
  rw [testBit_lessN, BitVec.testBit_toNat, BitVec.getLsbD_and, BitVec.getLsbD_not, ← BitVec.testBit_toNat, ← BitVec.testBit_toNat, h1, h2]
  simp [hi]
 show IntKind.u64.wrap ((BitVec.ofInt 64 (a : Int) &&& ~~~(BitVec.ofInt 64 (b : Int))).toNat : Int) = _
 rw [h3, IntKind.wrap_u64]
 omega
theorem wrap_pow (n : Int) (h0 : 0 ≤ n) (h1 : n < 64) : IntKind.u64.wrap (2 ^ n.toNat) = ((bitN n : Nat) : Int) := by
 have hb := bitN_lt n
 have e : ((2 : Int) ^ n.toNat) = ((bitN n : Nat) : Int) := by unfold bitN; rw [if_pos ⟨h0, h1⟩]; simp
 rw [e, IntKind.wrap_u64]
 omega
theorem bit_any (n : Int) (w : World) : Calls Tryz.prog 68 #[.int .i64 n] w fun e w' => e = .returned (u64 (bitN n)) ∧ w = w' := by
 by_cases h : 0 ≤ n ∧ n < 64
 ·obtain ⟨h0, h1⟩ := h
  go_enter Tryz.func68, Tryz.ntmps68
  go_wp2
  go_ret
  exact ⟨by rw [wrap_pow n h0 h1]; rfl, rfl⟩
 ·by_cases h0 : n < 0
  ·have e : bitN n = 0 := by unfold bitN; rw [if_neg h]
   rw [e]
   have H := hid h; clear h
   have E := hid e; clear e
   go_enter Tryz.func68, Tryz.ntmps68
   go_wp2
   go_ret
   exact ⟨rfl, rfl⟩
  ·have e : bitN n = 0 := by unfold bitN; rw [if_neg h]
   rw [e]
   have h1 : 64 ≤ n := by omega
   have H := hid h; clear h
   have E := hid e; clear e
   go_enter Tryz.func68, Tryz.ntmps68
   go_wp2
   go_ret
   exact ⟨rfl, rfl⟩
theorem Meet_any (a b : Nat) (ha : a < 18446744073709551616) (hb : b < 18446744073709551616) (w : World) : Calls Tryz.prog 36 #[u64 a, u64 b] w fun e w' => e = .returned (u64 (a &&& b)) ∧ w = w' := by
 have e := hid (bits_and_u64_nat a b ha hb)
 go_enter Tryz.func36, Tryz.ntmps36
 go_wp2
 go_ret
 exact ⟨by rw [e.out]; rfl, rfl⟩
def hasN (a : Nat) (n : Int) : Bool := decide (a &&& bitN n ≠ 0)
theorem Has_any (a : Nat) (n : Int) (ha : a < 18446744073709551616) (w : World) : Calls Tryz.prog 38 #[u64 a, .int .i64 n] w fun e w' => e = .returned (.bool (hasN a n)) ∧ w = w' := by
 have e := hid (bits_and_u64_nat a (bitN n) ha (bitN_lt n))
 go_enter Tryz.func38, Tryz.ntmps38
 go_wp2_with (go_at_call 68; refine (bit_any _ _).mono ?_; rintro e w' ⟨rfl, rfl⟩)
 go_ret
 refine ⟨?_, rfl⟩
 show Ending.returned (.bool (bits BinOp.and IntKind.u64 (a : Int) (bitN n : Nat) != 0)) = _
 rw [e.out]
 simp only [hasN]
 congr 2
 rw [Bool.eq_iff_iff]
 simp
theorem Without_any (a : Nat) (n : Int) (ha : a < 18446744073709551616) (w : World) : Calls Tryz.prog 63 #[u64 a, .int .i64 n] w fun e w' => e = .returned (u64 (lessN a (bitN n))) ∧ w = w' := by
 have e := hid (bits_andNot_u64_nat a (bitN n) ha (bitN_lt n))
 go_enter Tryz.func63, Tryz.ntmps63
 go_wp2_with (go_at_call 68; refine (bit_any _ _).mono ?_; rintro e w' ⟨rfl, rfl⟩)
 go_ret
 exact ⟨by rw [e.out]; rfl, rfl⟩
theorem Count_any (s : Nat) (hs : s < 18446744073709551616) (w : World) : Calls Tryz.prog 60 #[u64 s] w fun e W' => e = .returned (.int .i64 ((upto s 64).length : Int)) ∧ Below w.heap.size w W' :=
 callsIn_wide.1 (Count_in Fence.wide 3 trivial trivial trivial rfl (Nat.le_refl _) s hs w)
theorem First_any (s : Nat) (hs : s < 18446744073709551616) (w : World) : Calls Tryz.prog 39 #[u64 s] w fun e W' => e = .returned (.int .i64 (firstOf (upto s 64))) ∧ Below w.heap.size w W' :=
 callsIn_wide.1 (First_in Fence.wide 3 trivial trivial trivial rfl (Nat.le_refl _) s hs w)
end Go.Proofs.YtochckefnjobhaaGreatDoor.B1
namespace Go.Proofs.YtochckefnjobhaaGreatDoor.B1
open Go Go.RowKit Go.Shelf Go.Lib
def ofN (l : List Int) : Nat := l.foldl (fun s n => s ||| bitN n) 0
theorem ofN_snoc (l : List Int) (n : Int) : ofN (l ++ [n]) = ofN l ||| bitN n := by simp [ofN]
theorem ofN_lt (l : List Int) : ofN l < 18446744073709551616 := by
 have : ∀ (l : List Int) (s : Nat), s < 18446744073709551616 → l.foldl (fun s n => s ||| bitN n) s < 18446744073709551616 := by
  intro l
  induction l with
  | nil => exact fun s h => h
  | cons x l ih => exact fun s h => ih _ (or_lt h (bitN_lt x))
 exact this l 0 (by omega)
theorem take_snoc {l : List Int} {k : Nat} (h : k < l.length) : l.take (k + 1) = l.take k ++ [l.getD k 0] := by
 rw [List.take_succ_eq_append_getElem h]; simp [List.getD, h]
set_option maxHeartbeats 1000000 in
theorem Of_some (b off cap : Nat) (l : List Int) (w : World) (hl : l.length ≤ 9223372036854775807) (hc : ∀ i, i < l.length → w.cell? ⟨b, off + i, none⟩ = some (.int .i64 (l.getD i 0))) :
  Calls Tryz.prog 41 #[.slice (some ⟨b, off, none⟩) l.length cap] w fun e w' => e = .returned (u64 (ofN l)) ∧ w = w' := by
 have HC := hid hc
 clear hc
 go_enter Tryz.func41, Tryz.ntmps41
 go_wp2
 go_loop [3, 8] (fun s i => ∃ k : Nat, k ≤ l.length ∧ i = .int .i64 (k : Int) ∧ s = u64 (ofN (l.take k))) (fun _ i => l.length - (intOf i).toNat)
 case atStart => exact ⟨0, Nat.zero_le _, rfl, rfl⟩
 case round =>
  obtain ⟨k, hk, rfl, rfl⟩ := hrel
  have hlt' := ofN_lt (l.take k)
  by_cases hlt : k < l.length
  ·have g := HC.out k hlt
   have e := hid (bits_or_u64_nat (ofN (l.take k)) (bitN (l.getD k 0)) hlt' (bitN_lt _))
   have HT := hid (take_snoc hlt)
   go_wp2_with (go_at_call 68; refine (bit_any _ _).mono ?_; rintro e w' ⟨rfl, rfl⟩)
   exact ⟨⟨k + 1, by omega, by go_num, by rw [HT.out, ofN_snoc]; simp only [List.getD, hlt, List.getElem?_eq_getElem, Option.getD_some] at e ⊢; rw [e.out]⟩, by simp [intOf]; omega⟩
  ·go_wp2
   go_ret
   exact ⟨by rw [List.take_of_length_le (by omega)]; rfl, rfl⟩
end Go.Proofs.YtochckefnjobhaaGreatDoor.B1
