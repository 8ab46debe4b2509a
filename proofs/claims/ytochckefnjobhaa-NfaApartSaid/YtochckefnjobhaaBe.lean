/- A range over a function whose iterator keeps a number of its own in one captured cell: the law of the statement, for a loop body that leaves that cell alone. -/
import Derived.RangeFuncNested
import Derived.RangeFuncBound
import Derived.RangeFuncLeaves
import Derived.Shelf.Abstract
import Derived.Shelf.RegionOpen
import Derived.WalkKit
import Derived.OwnWalkIn
import Derived.TacticsInMore
import Derived.LoopNIn
import Derived.LoopIn
import Derived.WalkSmall
import Derived.Lib.Hide
import Derived.Outline
import Derived.Test.YtochckefnjobhaaProg
import Derived.Test.YtochckefnjobhaaBm
namespace Go.Proofs.Ytochckefnjobhaa
open Go Go.RowKit

/-- What such an iterator owes: between two rounds it may turn block Bs, its own, and lay new blocks; a round that goes on leaves Bs as it was. -/
def CellSeq {α : Type} (F : Fence) (n : Nat) (P : Program) (g : Nat) (lb : Array Value) (encs : α → Array Value) (Bs : Nat) (S Sp : List α → Prop) (N : Nat) (w : World) : Prop :=
  ∀ (l : Nat) (J Jx : List α → World → Prop) (W : World), W.heap[Bs]? = w.heap[Bs]? → (∀ s A B, J s A → A.grownBy B (some Bs) → J s B) →
    (∀ pre x W1, J pre W1 → pre.length < N → YieldAt F (n - 1) P l (encs x) W1 fun e W' =>
      (e = .returned (.bool true) ∧ J (pre ++ [x]) W' ∧ W'.heap[Bs]? = W1.heap[Bs]?) ∨ (e = .returned (.bool false) ∧ Jx (pre ++ [x]) W')) →
    J [] W →
    CallsIn F n P g (#[.func (.yield l) #[] #[]] ++ lb) W fun e W' => (∃ v, e = .returned v) ∧ ((∃ xs, S xs ∧ J xs W') ∨ (∃ pre, Sp pre ∧ Jx pre W'))

/-- How a round's body may be left. -/
def cellPost {α : Type} (B Bs : Nat) (I : List α → World → Prop) (Ix : Code → List α → World → Prop) (xs : List α) (W : World) : Exit → Act → World → Prop
  | .normal, _, W' => KeepsFrom B W W' ∧ W'.heap[Bs]? = W.heap[Bs]? ∧ I xs W'
  | .ret, _, W' => KeepsFrom B W W' ∧ Ix .ret xs W'
  | _, _, _ => False

variable {F : Fence} {n : Nat} {P : Program}

set_option maxHeartbeats 1000000 in
theorem wpIn_rangeFunc_cell {α : Type} {g : Operand} {ps : Array Tmp} {assign body : Code} {Q : Exit → Act → World → Prop} {a : Act} {w : World}
    (hro : F.round = none) (h1 : 1 ≤ n) {gf : Nat} {lb : Array Value} (hg : a.eval g = .func (.func gf) #[] lb) (hFg : F.fn gf) (eg : ∀ args w, (callFunc gf args).run P w = .ok (.enter gf args) w)
    {encs : α → Array Value} {Bs : Nat} {S Sp : List α → Prop} {N : Nat} (hseq : CellSeq F (n - 1) P gf lb encs Bs S Sp N w) (hBs : Bs < w.heap.size) (hps : ∀ x, (encs x).size = ps.size)
    (I : List α → World → Prop) (Ix : Code → List α → World → Prop) (hI : OwnFrom w.heap.size I) (hIs : ∀ s A B, I s A → A.grownBy B (some Bs) → I s B) (hIx : ∀ c, OwnFrom w.heap.size (Ix c)) (h0 : I [] w) (a₁ : α → Act)
    (hassign : ∀ (l : Nat) (x : α) (W : World) (K : Act → World → Prop), K (a₁ x) W →
      assign.wpIn (F.inRound l) (n - 1 - 1) P (Exit.then K (fun _ _ _ => False)) { tmps := (ps.zip (encs x)).foldl (fun t (p, v) => t.setIfInBounds p v) a.tmps, defers := [] } W)
    (hbody : ∀ (l : Nat) (pre : List α) (x : α) (W : World), I pre W → pre.length < N → body.wpIn (F.inRound l) (n - 1 - 1) P (cellPost w.heap.size Bs I Ix (pre ++ [x]) W) (a₁ x) W)
    (hdone : ∀ (D : Nat) (xs : List α) (W : World), w.heap.size ≤ D → S xs → I xs W → W.heap[D]? = some (.deferred (some [])) → Q .normal { a with defers := { target := .collected D, args := #[] } :: a.defers } W)
    (hstop : ∀ (D : Nat) (pre : List α) (W : World), w.heap.size ≤ D → Sp pre → Ix .ret pre W → W.heap[D]? = some (.deferred (some [])) → Code.ret.wpIn F n P Q { a with defers := { target := .collected D, args := #[] } :: a.defers } W) :
    (Code.rangeFunc g ps assign body).wpIn F n P Q a w := by
  refine wpIn_rangeFunc ?_
  intro fn hfn
  rw [hro]
  obtain ⟨rec, hrec⟩ : ∃ rec : LoopState → Option Code → Loop, rec = fun st pe => { state := st, pending := pe, fn, tmps := a.tmps, params := ps, assign, body, defers := w.heap.size } := ⟨_, rfl⟩
  obtain ⟨W1, hW1⟩ : ∃ W1, (w.alloc (.deferred (some []))).alloc (.loop (rec .ready none)) = W1 := ⟨_, rfl⟩
  have hL1 : W1.heap[w.heap.size + 1]? = some (.loop (rec .ready none)) := by
    rw [← hW1]; have := World.alloc_heap_new (w.alloc (.deferred (some []))) (.loop (rec .ready none)); rwa [World.size_alloc] at this
  have hK1 : W1.heap[w.heap.size]? = some (.deferred (some [])) := by
    rw [← hW1]; exact (Below.heap_alloc _ _ _ (by simp)).trans (World.alloc_heap_new w _)
  have hB1 : W1.heap[Bs]? = w.heap[Bs]? := by
    rw [← hW1]; exact (Below.heap_alloc _ _ _ (by simp; omega)).trans (Below.heap_alloc _ _ _ hBs)
  have hI1 : I [] W1 := by rw [← hW1]; exact hI.alloc _ (hI.alloc _ h0)
  -- THE TWO BLOCKS OF BOOK-KEEPING LIE ON WHERE THE ITERATOR TURNS ITS OWN CELL
  have keep : ∀ {A B : World} {k : Nat} {o : Obj}, A.grownBy B (some Bs) → w.heap.size ≤ k → A.heap[k]? = some o → B.heap[k]? = some o := fun hgb hk ho =>
    (hgb.block _ (Array.getElem?_eq_some_iff.1 ho).1 (by simp; omega)).trans ho
  refine ⟨w.heap.size + 1, [{ target := .collected w.heap.size, args := #[] }], W1, { target := .fn (.func gf) lb, args := #[.func (.yield (w.heap.size + 1)) #[] #[]] }, W1, gf,
    #[.func (.yield (w.heap.size + 1)) #[] #[]] ++ lb, W1, ?_, ?_, ?_, ?_, fun _ => h1, ?_⟩
  · rw [← hW1, hrec]; exact run_enterLoop_outer _ _ _ _ _
  · simp only [resolve, hg]
    simp [go_sem]
  · intro f' hf'; simp [Target.leads] at hf'; subst hf'; exact hFg
  · simp [invoke, go_sem, eg]
  · refine (hseq (w.heap.size + 1)
      (fun pre W => I pre W ∧ W.heap[w.heap.size + 1]? = some (.loop (rec .ready none)) ∧ W.heap[w.heap.size]? = some (.deferred (some [])))
      (fun pre W => Ix .ret pre W ∧ W.heap[w.heap.size + 1]? = some (.loop (rec .done (some .ret))) ∧ W.heap[w.heap.size]? = some (.deferred (some [])))
      W1 hB1
      (fun s A B hs hgb => ⟨hIs s A B hs.1 hgb, keep hgb (by omega) hs.2.1, keep hgb (Nat.le_refl _) hs.2.2⟩)
      ?_ ⟨hI1, hL1, hK1⟩).mono ?_
    · rintro pre x W ⟨hi, hl, hk⟩ hlen
      have hlt : w.heap.size + 1 < W.heap.size := (Array.getElem?_eq_some_iff.1 hl).1
      have hy := run_yield (P := P) (args := encs x) hl (by rw [hrec]; exact hps x)
      rw [hrec] at hy
      refine ⟨fn, _, assign, body, hy, roundIn_of_wpIn hfn (hassign _ x W _ ⟨_, run_beginRound hl (by rw [hrec]), ?_⟩)⟩
      have hl2 : (W.putObj (w.heap.size + 1) (.loop { rec .ready none with state := .busy })).heap[w.heap.size + 1]? = some (.loop { rec .ready none with state := .busy }) := World.putObj_heap_same hlt
      have hk2 : (W.putObj (w.heap.size + 1) (.loop { rec .ready none with state := .busy })).heap[w.heap.size]? = some (.deferred (some [])) := (World.putObj_heap_other (by omega)).trans hk
      have hb2 : (W.putObj (w.heap.size + 1) (.loop { rec .ready none with state := .busy })).heap[Bs]? = W.heap[Bs]? := World.putObj_heap_other (by omega)
      refine wpIn_mono (hbody _ pre x _ (hI.putObj _ hi (by omega) hl rfl) hlen) ?_
      have fin : ∀ (jump : Option Code) (W3 : World), KeepsFrom w.heap.size (W.putObj (w.heap.size + 1) (.loop { rec .ready none with state := .busy })) W3 →
          (Instr.endRound (w.heap.size + 1) jump).run P W3 = .ok (.bool jump.isNone) (W3.putObj (w.heap.size + 1) (.loop (rec (if jump.isNone then .ready else .done) jump))) ∧
          W3.heap[w.heap.size + 1]? = some (.loop { rec .ready none with state := .busy }) ∧
          (W3.putObj (w.heap.size + 1) (.loop (rec (if jump.isNone then .ready else .done) jump))).heap[w.heap.size + 1]? = some (.loop (rec (if jump.isNone then .ready else .done) jump)) ∧
          (W3.putObj (w.heap.size + 1) (.loop (rec (if jump.isNone then .ready else .done) jump))).heap[w.heap.size]? = some (.deferred (some [])) := fun jump W3 hk3 => by
        have hl3 := hk3.same _ _ (by omega) hl2 rfl
        have := run_endRound (P := P) jump hl3
        rw [hrec] at this ⊢
        exact ⟨this, by rw [hrec] at hl3; exact hl3, World.putObj_heap_same (Array.getElem?_eq_some_iff.1 hl3).1, (World.putObj_heap_other (by omega)).trans (hk3.same _ _ (Nat.le_refl _) hk2 rfl)⟩
      rintro e a3 W3 hp
      cases e with
      | normal =>
        obtain ⟨hk3, hkp3, hi3⟩ := hp
        obtain ⟨hr, hl3, hl4, hk4⟩ := fin none W3 hk3
        exact ⟨_, _, hr, .inl ⟨rfl, ⟨hI.putObj _ hi3 (by omega) hl3 rfl, hl4, hk4⟩, (World.putObj_heap_other (by omega)).trans (hkp3.trans hb2)⟩⟩
      | ret =>
        obtain ⟨hk3, hi3⟩ := hp
        obtain ⟨hr, hl3, hl4, hk4⟩ := fin (some .ret) W3 hk3
        exact ⟨_, _, hr, .inr ⟨rfl, (hIx _).putObj _ hi3 (by omega) hl3 rfl, hl4, hk4⟩⟩
      | exit id => exact hp.elim
      | goto t => exact hp.elim
      | panic ch => exact hp.elim
      | outgrown => exact hp.elim
    · rintro e W2 ⟨⟨v, rfl⟩, (⟨xs, hS, hi, hl, hk⟩ | ⟨pre, hSp, hi, hl, hk⟩)⟩
      · exact ⟨none, _, by have := run_endLoop (P := P) hl (by rw [hrec]; simp); rw [hrec] at this; exact this, hdone _ xs _ (Nat.le_refl _) hS (hI.putObj _ hi (by omega) hl rfl) ((World.putObj_heap_other (by omega)).trans hk)⟩
      · exact ⟨some .ret, _, by have := run_endLoop (P := P) hl (by rw [hrec]; simp); rw [hrec] at this; exact this, hstop _ pre _ (Nat.le_refl _) hSp ((hIx .ret).putObj _ hi (by omega) hl rfl) ((World.putObj_heap_other (by omega)).trans hk)⟩

end Go.Proofs.Ytochckefnjobhaa

/- bits.each and its closure: it hands the numbers of a set to a loop's body, one by one, rising. -/
namespace Go.Proofs.Ytochckefnjobhaa
open Go Go.RowKit Go.Shelf Go.Lib
attribute [local go_sem] Oper.semAt_some

set_option maxRecDepth 100000 in
set_option maxHeartbeats 1000000 in
theorem each_in (F : Fence) (n : Nat) (h45 : F.fn 32) (hro : F.round = none) (s : Int) (w : World) :
    CallsIn F n Try.prog 32 #[.int .u64 s] w fun e w' => e = .returned (.func (.func 40) #[] #[.pointer (some ⟨w.heap.size, 0, none⟩)]) ∧ w' = w.alloc (.cells #[.int .u64 s] 43) := by
  refine callsIn_of_wp Try.func32 rfl h45 ?_ hro
  simp only [Try.ntmps32, List.size_toArray, List.length_cons, List.length_nil, Nat.reduceAdd, Nat.reduceSub, Array.replicate_succ, Array.replicate_zero, List.push_toArray, List.append_toArray, List.nil_append, List.cons_append]
  gi_wp2
  go_ret
  exact ⟨rfl, rfl⟩

theorem boxed_half {W : World} {Bs s k t : Nat} (h : Boxed W Bs 43 (.int .u64 (t : Int))) (ht : t = s >>> k) :
    Boxed (W.setCell ⟨Bs, 0, none⟩ (.int .u64 ((t : Int) / 2))).drew Bs 43 (.int .u64 ((s >>> (k + 1) : Nat) : Int)) := by
  have e : ((t : Int) / 2) = ((s >>> (k + 1) : Nat) : Int) := by
    rw [← shr_one, ← ht, Nat.shiftRight_eq_div_pow]; omega
  rw [e]
  exact Boxed.set (.int .u64 ((s >>> (k + 1) : Nat) : Int)) h
theorem grown_half (W : World) (Bs : Nat) (v : Value) : W.grownBy (W.setCell ⟨Bs, 0, none⟩ v).drew (some Bs) :=
  ⟨rfl, rfl, rfl, (grownBy_setCell' W Bs v).size, (grownBy_setCell' W Bs v).block⟩

set_option maxRecDepth 100000 in
set_option maxHeartbeats 1000000 in
theorem each1_seq (F : Fence) (n : Nat) (h51 : F.fn 40) (hro : F.round = none) (hn : 1 ≤ n) (Bs s : Nat) (hs : s < 18446744073709551616) (w : World) (hb : Boxed w Bs 43 (.int .u64 (s : Int))) :
    CellSeq F n Try.prog 40 #[.pointer (some ⟨Bs, 0, none⟩)] (fun k : Nat => #[Value.int .i64 (k : Int)]) Bs (fun xs => xs = upto s 64) (fun pre => pre <+: upto s 64) 64 w := fun l J Jx W hW hJ hY h0 => by
  refine callsIn_of_wp Try.func40 rfl h51 ?_ hro
  simp only [Try.ntmps40, List.size_toArray, List.length_cons, List.length_nil, Nat.reduceAdd, Nat.reduceSub, Array.replicate_succ, Array.replicate_zero, List.push_toArray, List.append_toArray, List.nil_append, List.cons_append]
  gi_wp2
  gi_loopw [3] (fun i wr => ∃ k : Nat, k ≤ 64 ∧ i = .int .i64 (k : Int) ∧ Boxed wr Bs 43 (.int .u64 ((s >>> k : Nat) : Int)) ∧ J (upto s k) wr)
    (fun i _ => 64 - (intOf i).toNat)
  case atStart =>
    exact ⟨0, by omega, rfl, hW.trans hb, h0⟩
  case round =>
    obtain ⟨k, hk, rfl, hbx, hj⟩ := hrel
    obtain ⟨t, ht⟩ : ∃ t : Nat, t = s >>> k := ⟨_, rfl⟩
    rw [← ht] at hbx
    have hc := hbx.cell
    have hfz := hbx.frozen
    have hbit := testBit_shr s k
    rw [← ht] at hbit
    have htb : t ≤ 18446744073709551615 := by rw [ht, Nat.shiftRight_eq_div_pow]; have := Nat.div_le_self s (2 ^ k); omega
    have hand := and_one_u64 (t : Int) (by omega) (by omega)
    by_cases hz : t = 0
    · have T0 : ((t : Int) != 0) = false := by simp [hz]
      have HT := hid ht; clear ht
      have HB := hid hbit; clear hbit
      have HA := hid hand; clear hand
      have HZ := hid hz; clear hz
      gi_wp2
      go_end0
      exact ⟨⟨_, rfl⟩, .inl ⟨_, upto_all (by rw [← HT.out, HZ.out]) hk, hj⟩⟩
    · have hk2 : k < 64 := shr_lt hs (by rw [← ht]; exact hz)
      have T0 : ((t : Int) != 0) = true := by simp [hz]
      have hlen := upto_length s k
      by_cases h1 : t % 2 = 1
      · have T1 : (bits BinOp.and IntKind.u64 (t : Int) 1 == 1) = true := by rw [hand]; simp; omega
        obtain ⟨fn, tmps, assign, body, hy, hR⟩ := hY (upto s k) k wr hj (by omega)
        rw [← upto_hit (by rw [hbit]; simp [h1])] at hR
        have HT := hid ht; clear ht
        have HB := hid hbit; clear hbit
        have HA := hid hand; clear hand
        have H1 := hid h1; clear h1
        gi_wp2
        refine hR.mono ?_
        rintro e W3 (⟨rfl, hJ3, hk3⟩ | ⟨rfl, hJx3⟩)
        · have hb3 : Boxed W3 Bs 43 (.int .u64 (t : Int)) := hk3.trans hbx
          have hc3 := hb3.cell
          have hfz3 := hb3.frozen
          have HK3 := hid hk3; clear hk3
          gi_wp2
          gi_region
          all_goals
            rw [show IntKind.i64.wrap ((k : Int) + 1) = ((k + 1 : Nat) : Int) from IntWalk.i64_in _ (by omega)]
            go_roundw
            case rel => (repeat apply Exists.intro); exact ⟨⟨k + 1, by omega, rfl, boxed_half hb3 (HT.out), hJ _ _ _ hJ3 (grown_half W3 Bs _)⟩, rfl⟩
            case measure => simp [intOf]; omega
        · gi_wp2
          refine bodyPost_ret (results_none rfl _ _ _) rfl ?_
          exact ⟨⟨_, rfl⟩, .inr ⟨_, upto_prefix s (k + 1) (by omega), hJx3⟩⟩
      · have T1 : (bits BinOp.and IntKind.u64 (t : Int) 1 == 1) = false := by rw [hand]; simp; omega
        have HT := hid ht; clear ht
        have HB := hid hbit; clear hbit
        have HA := hid hand; clear hand
        have H1 := hid h1; clear h1
        gi_wp2
        refine ⟨fun _ h => (by cases h), ?_⟩
        gi_wp2
        gi_region
        all_goals
          rw [show IntKind.i64.wrap ((k : Int) + 1) = ((k + 1 : Nat) : Int) from IntWalk.i64_in _ (by omega)]
          go_roundw
          case rel => (repeat apply Exists.intro); exact ⟨⟨k + 1, by omega, rfl, boxed_half hbx (HT.out), hJ _ _ _ (by rw [upto_miss (by rw [HB.out]; simpa using H1.out)]; exact hj) (grown_half wr Bs _)⟩, rfl⟩
          case measure => simp [intOf]; omega

end Go.Proofs.Ytochckefnjobhaa
