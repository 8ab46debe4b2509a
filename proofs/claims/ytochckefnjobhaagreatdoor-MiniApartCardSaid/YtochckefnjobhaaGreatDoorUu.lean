/- dfa.Valid, of an automaton that is. -/
import Derived.Test.YtochckefnjobhaaGreatDoorUp
import Derived.Test.YtochckefnjobhaaGreatDoorWf
namespace Go.Proofs.YtochckefnjobhaaGreatDoor
open Go Go.RowKit Go.Lib
open X3 (RX Pl)
open X5 (Aut)
set_option linter.unusedVariables false
set_option linter.unusedSimpArgs false
set_option maxRecDepth 100000 in
set_option maxHeartbeats 4000000 in
theorem valid_any {w : World} {nv tv : Value} {cs : List Nat} {NX : List (List Int)} {TG : List Nat} (h : DAt w nv tv ⟨cs.map fun (n : Nat) => (n : Int), NX, TG⟩) (n : Nat) (h0 : 0 < NX.length) (ht : TG.length = NX.length) (hc : ∀ c ∈ cs, c < n)
  (hr : ∀ x ∈ NX, x.length = n ∧ ∀ z ∈ x, -1 ≤ z ∧ z < (NX.length : Int)) :
  Calls Tryz.prog 42 #[.agg (dvc cs nv tv)] w fun e w' => e = .returned (.bool true) ∧ Below w.heap.size w w' := by
 have hcl : cs.length = 256 := by have := h.len; simpa using this
 obtain ⟨dc, hdc⟩ : ∃ dc, dvc cs nv tv = dc := ⟨_, rfl⟩
 rw [hdc]
 have HDC := hid hdc
 have HCL := hid hcl
 obtain ⟨wa, ea⟩ : ∃ wa, w.alloc (.cells dc 26) = wa := ⟨_, rfl⟩
 have hba : Below w.heap.size w wa := by rw [← ea]; exact (Below.refl _ _).alloc (Nat.le_refl _) _
 have hna : wa.heap[w.heap.size]? = some (.cells dc 26 (0, 0)) := by rw [← ea]; exact new_block _ _
 have hda := h.below hba
 obtain ⟨no, nc, hno, hrows⟩ := hda.rows
 obtain ⟨to, tc, hto, _⟩ := hda.tags
 have hs : (nvs cs).size = 256 := by rw [nvs_size]; exact hcl
 have c256 : wa.cell? ⟨w.heap.size, 256, none⟩ = some (.slice no NX.length nc) := by
  rw [Lib.cell_of_heap hna, ← hdc]
  unfold dvc
  rw [Array.getElem?_append_right (by omega), hs, hno]; rfl
 have c257 : wa.cell? ⟨w.heap.size, 257, none⟩ = some (.slice to NX.length tc) := by
  rw [Lib.cell_of_heap hna, ← hdc]
  unfold dvc
  rw [Array.getElem?_append_right (by omega), hs, hto]
  show some (Value.slice to TG.length tc) = _
  rw [ht]
 obtain ⟨bn, offn, v0, rfl, hbn, cn0, hr0⟩ := hrows 0 h0
 obtain ⟨r0, rc0, rfl, _⟩ := hr0
 have hl0 : NX[0].length = n := (hr _ (List.getElem_mem h0)).1
 rw [Nat.add_zero] at cn0
 change wa.cell? ⟨bn, offn, none⟩ = some (.slice r0 NX[0].length rc0) at cn0
 rw [hl0] at cn0
 have HROWS := hid hrows
 have HNA := hid hna
 have HBA := hid hba
 have HC := hid hc
 have HR := hid hr
 have h1 : ((NX.length : Int) == 0) = false := by rw [beq_eq_false_iff_ne]; omega
 have h2 : (0 : Int) < (NX.length : Int) := by omega
 have hcap : NX.length ≤ maxLen := h.few.1
 have hnm : n ≤ maxLen := by rw [← hl0]; exact h.short _ (List.getElem_mem h0)
 unfold maxLen at hcap hnm
 clear h hdc hcl hda hrows hna hba hc hr hno hto hl0 hs ht
 go_enter Tryz.func42, Tryz.ntmps42
 go_wp2_with (with_reducible refine wpList_load26c rfl (.tmp 28) rfl _ rfl cs _ _ dc HDC.out HNA.out HCL.out ?_)
 go_loopw [30] (fun t30 wr => ∃ k : Nat, k ≤ 256 ∧ t30 = .int .i64 (k : Int) ∧ wr = wa) (fun t30 _ => 256 - (RowKit.intOf t30).toNat)
 case atStart => exact ⟨0, by omega, rfl, by first | trivial | rfl⟩
 case round =>
  obtain ⟨k, hk, rfl, hw⟩ := hrel
  have hw := hw.symm
  subst hw
  by_cases hlt : k < 256
  ·have h3 : (k : Int) < 256 := by omega
   have h4 : (0 : Int) ≤ (k : Int) := by omega
   have hix := index26 cs HCL.out k hlt wa
   have hcn : cs.getD k 0 < n := by
    rw [List.getD_eq_getElem?_getD, List.getElem?_eq_getElem (by have := HCL.out; omega)]
    exact HC.out _ (List.getElem_mem _)
   generalize cs.getD k 0 = c at *
   have h5 : ¬ (c : Int) < 0 := by omega
   have h6 : ¬ (n : Int) ≤ (c : Int) := by omega
   go_wp2_with fail
   refine ⟨⟨k + 1, by omega, rfl, by first | trivial | rfl⟩, ?_⟩
   show 256 - ((k : Int) + 1).toNat < 256 - ((k : Int)).toNat
   omega
  ·have h3 : ¬ (k : Int) < 256 := by omega
   go_wp2_with fail
   go_loopw [44] (fun t44 wr2 => ∃ i : Nat, i ≤ NX.length ∧ t44 = .int .i64 (i : Int) ∧ wr2 = wa) (fun t44 _ => NX.length - (RowKit.intOf t44).toNat)
   case atStart => exact ⟨0, by omega, rfl, by first | trivial | rfl⟩
   case round =>
    obtain ⟨i, hi, rfl, hw⟩ := hrel
    have hw := hw.symm
    subst hw
    by_cases hil : i < NX.length
    ·have h5 : (i : Int) < (NX.length : Int) := by omega
     have h6 : (0 : Int) ≤ (i : Int) := by omega
     obtain ⟨bi, offi, vi, ebi, hbi, ci, hri⟩ := HROWS.out i hil
     injection ebi with ebi
     injection ebi with eb eo _
     subst eb eo
     obtain ⟨ri, rci, rfl, hcells⟩ := hri
     have hxi := HR.out _ (List.getElem_mem hil)
     change World.cell? _ ⟨bn, offn + i, none⟩ = some (.slice ri NX[i].length rci) at ci
     rw [hxi.1] at ci
     have HCells := hid hcells
     have HX := hid hxi
     clear hcells hxi
     go_wp2_with fail
     go_loopw [54] (fun t54 wr3 => ∃ j : Nat, j ≤ n ∧ t54 = .int .i64 (j : Int) ∧ wr3 = wa) (fun t54 _ => n - (RowKit.intOf t54).toNat)
     case atStart => exact ⟨0, by omega, rfl, by first | trivial | rfl⟩
     case round =>
      obtain ⟨j, hj, rfl, hw⟩ := hrel
      have hw := hw.symm
      subst hw
      by_cases hjl : j < n
      ·have h7 : (j : Int) < (n : Int) := by omega
       have h8 : (0 : Int) ≤ (j : Int) := by omega
       have hjx : j < NX[i].length := by rw [HX.out.1]; exact hjl
       obtain ⟨bj, offj, rfl, hbj, cj⟩ := HCells.out j hjx
       have hz := HX.out.2 _ (List.getElem_mem hjx)
       change World.cell? _ ⟨bj, offj + j, none⟩ = some (.int .i64 NX[i][j]) at cj
       generalize NX[i][j] = z at *
       have h9 : ¬ z < -1 := by omega
       have h10 : ¬ (NX.length : Int) ≤ z := by omega
       go_wp2_with fail
       refine ⟨⟨j + 1, by omega, rfl, by first | trivial | rfl⟩, ?_⟩
       show n - ((j : Int) + 1).toNat < n - ((j : Int)).toNat
       omega
      ·have h7 : ¬ (j : Int) < (n : Int) := by omega
       go_wp2_with fail
       refine ⟨⟨i + 1, by omega, rfl, by first | trivial | rfl⟩, ?_⟩
       show NX.length - ((i : Int) + 1).toNat < NX.length - ((i : Int)).toNat
       omega
    ·have h5 : ¬ (i : Int) < (NX.length : Int) := by omega
     go_wp2_with fail
     go_ret
     exact ⟨rfl, HBA.out⟩
end Go.Proofs.YtochckefnjobhaaGreatDoor
set_option linter.unusedVariables false
namespace Go.Proofs.YtochckefnjobhaaGreatDoor
open Go Go.RowKit Go.Lib
open X3 (RX Pl)
open X5 (Aut)
abbrev exA : RX := .bytes 0 8589934592 0 0
abbrev exB : RX := .bytes 0 17179869184 0 0
theorem ex_parse1 : X3.parseX [97, 98] = .inr (.cat [exA, exB]) := by rfl
theorem byte_is (c : Nat) (b : Nat) (hb : ∀ n : Fin 256, ((if n.val < 64 then 0 else if n.val < 128 then b else if n.val < 192 then 0 else 0) >>> (n.val % 64)) % 2 = 1 → n.val = c) {s : List UInt8} (h : X3.Mt (.bytes 0 b 0 0) s) : ∃ x : UInt8, s = [x] ∧ x.toNat = c := by
 cases h with
 | byte _ _ _ _ x h => exact ⟨x, rfl, hb ⟨x.toNat, x.toNat_lt⟩ h⟩
set_option maxRecDepth 10000 in
theorem mt_a {s : List UInt8} (h : X3.Mt exA s) : s = [97] := by
 obtain ⟨x, rfl, hx⟩ := byte_is 97 8589934592 (by decide) h
 have : x = 97 := UInt8.toNat_inj.1 hx
 rw [this]
set_option maxRecDepth 10000 in
theorem mt_b {s : List UInt8} (h : X3.Mt exB s) : s = [98] := by
 obtain ⟨x, rfl, hx⟩ := byte_is 98 17179869184 (by decide) h
 have : x = 98 := UInt8.toNat_inj.1 hx
 rw [this]
theorem mt_a' : X3.Mt exA [97] := .byte _ _ _ _ 97 (by decide)
theorem mt_b' : X3.Mt exB [98] := .byte _ _ _ _ 98 (by decide)
theorem mt_cat {s : List UInt8} (h : X3.Mt (.cat [exA, exB]) s) : s = [97, 98] := by
 cases h with
 | cat _ _ h =>
  cases h with
  | cons _ _ s t h h2 =>
   cases h2 with
   | cons _ _ s2 t2 h3 h4 =>
    cases h4
    rw [mt_a h, mt_b h3]
    rfl
theorem mt_cat' : X3.Mt (.cat [exA, exB]) [97, 98] := .cat _ _ (.cons _ _ [97] [98] mt_a' (.cons _ _ [98] [] mt_b' .nil))
abbrev exL : List RX := [.cat [exA, exB]]
theorem bit1 (i : Nat) : (1 : Nat).testBit i = true ↔ i = 0 := by
 rw [show (1 : Nat) = 2 ^ 0 from rfl, Nat.testBit_two_pow]; simp; omega
theorem ex_runAB : RunR exL [97, 98] 1 := ⟨by decide, fun i => by
 rw [bit1]
 constructor
 ·rintro rfl; exact ⟨_, rfl, mt_cat'⟩
 ·rintro ⟨r, hr, _⟩
  match i, hr with
  | 0, _ => rfl⟩
theorem ex_runNo {s : List UInt8} (hs : s ≠ [97, 98]) : RunR exL s 0 := ⟨by decide, fun i => by
 rw [Nat.zero_testBit]
 constructor
 ·intro h; cases h
 ·rintro ⟨r, hr, h⟩
  match i, hr with
  | 0, hr => simp at hr; subst hr; exact absurd (mt_cat h) hs⟩
theorem ex_sizes : ∀ k (hk : k < exL.length), exL[k].size ≤ 1000000 := by
 intro k hk
 match k, hk with
 | 0, _ =>
  show (RX.cat [exA, exB]).size ≤ 1000000
  decide
theorem ex_few : ¬ many exL := by
 unfold many
 decide
theorem ex_cls : (clsX exL).getD 0 0 = 0 ∧ (clsX exL).getD 97 0 = 1 ∧ (clsX exL).getD 98 0 = 2 ∧ (clsX exL).getD 99 0 = 0 := by decide +kernel
def subsX : List Nat → List (List Nat)
 | [] => [[]]
 | a :: l => subsX l ++ (subsX l).map (a :: ·)
theorem subsX_len : ∀ l, (subsX l).length = 2 ^ l.length
 | [] => rfl
 | a :: l => by
  rw [subsX, List.length_append, List.length_map, subsX_len l, List.length_cons, Nat.pow_succ]; omega
theorem subsX_sub : ∀ {A L : List Nat}, A.Sublist L → A ∈ subsX L
 | _, _, .slnil => by simp [subsX]
 | _, _, .cons a h => by rw [subsX]; exact List.mem_append_left _ (subsX_sub h)
 | _, _, .cons_cons a h => by rw [subsX]; exact List.mem_append_right _ (List.mem_map.2 ⟨_, subsX_sub h, rfl⟩)
theorem sorted_sub : ∀ (n s : Nat) (A : List Nat), A.Pairwise (· < ·) → (∀ q ∈ A, s ≤ q ∧ q < s + n) → A.Sublist (List.range' s n)
 | 0, s, A, _, h => by
  cases A with
  | nil => exact .slnil
  | cons a A => have := h a (by simp); omega
 | n + 1, s, A, hp, h => by
  rw [List.range'_succ]
  cases A with
  | nil => exact List.nil_sublist _
  | cons a A =>
   have hpa := List.pairwise_cons.1 hp
   by_cases e : a = s
   ·subst e
    exact .cons_cons _ (sorted_sub n (a + 1) A hpa.2 fun q hq => by have := hpa.1 q hq; have := h q (by simp [hq]); omega)
   ·exact .cons _ (sorted_sub n (s + 1) (a :: A) hp fun q hq => by
     have h1 := h q hq
     have h2 := h a (by simp)
     rcases List.mem_cons.1 hq with rfl | h3
     ·omega
     ·have := hpa.1 q h3; omega)
theorem not_big {l : List RX} (h : 2 ^ (Pm l).length ≤ 2000) : ¬ Big l := by
 rintro ⟨SS, h1, h2, h3⟩
 have hsub : SS ⊆ subsX (List.range' 0 (Pm l).length) := fun A hA => subsX_sub (sorted_sub _ _ _ (h3 A hA).1 fun q hq => ⟨Nat.zero_le _, by have := (h3 A hA).2 q hq; omega⟩)
 have := h2.length_le_of_subset hsub
 rw [subsX_len, List.length_range'] at this
 omega
theorem ex_small : ¬ Big exL := not_big (by decide +kernel)
theorem sets_valid {l : List RX} {A0 : List Nat} {D : Aut} {SS : List (List Nat)} (h : Sets l A0 D SS) :
  0 < D.next.length ∧ D.tags.length = D.next.length ∧ (∀ c ∈ clsX l, c < (Fx l).length) ∧ ∀ x ∈ D.next, x.length = (Fx l).length ∧ ∀ z ∈ x, -1 ≤ z ∧ z < (D.next.length : Int) := by
 have hfirst := X5.fs_all (cls_first l) 256 (by have := (cls_good l).1; exact Nat.le_of_eq this.symm)
 have hl : (clsX l).length = 256 := (cls_good l).1
 refine ⟨by rw [h.nlen]; exact (List.getElem?_eq_some_iff.1 h.begin_).1, by rw [h.tlen, h.nlen], fun c hc => ?_, fun x hx => ?_⟩
 ·obtain ⟨j, hj, rfl⟩ := List.mem_iff_getElem.1 hc
  have := hfirst.1 j (by omega)
  rw [List.getD_eq_getElem?_getD, List.getElem?_eq_getElem hj] at this
  exact this
 ·obtain ⟨i, hi, rfl⟩ := List.mem_iff_getElem.1 hx
  obtain ⟨A, hA⟩ : ∃ A, SS[i]? = some A := ⟨_, List.getElem?_eq_getElem (by rw [← h.nlen]; exact hi)⟩
  have hr := h.rows i A hA
  have e : X5.rowOf D i = D.next[i] := by unfold X5.rowOf; rw [List.getD_eq_getElem?_getD, List.getElem?_eq_getElem hi]; rfl
  rw [e] at hr
  refine ⟨hr.1, fun z hz => ?_⟩
  obtain ⟨c, hc, rfl⟩ := List.mem_iff_getElem.1 hz
  obtain ⟨f, hf⟩ : ∃ f, (X5.fsX (clsX l) 256)[c]? = some f := ⟨_, List.getElem?_eq_getElem (by rw [← hr.1]; exact hc)⟩
  have e2 : (D.next[i]).getD c 0 = D.next[i][c] := by rw [List.getD_eq_getElem?_getD, List.getElem?_eq_getElem hc]; rfl
  obtain ⟨B, _, ⟨_, h1⟩ | ⟨_, n, h1, h2⟩⟩ := hr.2 c f hf
  ·rw [e2] at h1; rw [h1]; omega
  ·rw [e2] at h1
   have := (List.getElem?_eq_some_iff.1 h2).1
   rw [h1, h.nlen]; omega
theorem ex_go {A0 : List Nat} {D : Aut} {SS : List (List Nat)} (h : Sets exL A0 D SS) (h0 : AtN exL [] A0) : 0 ≤ X5.behX D 0 97 := by
 have e1 : X5.goX D [97] 0 = X5.behX D 0 97 := rfl
 rcases sets_go h h0 [97] with ⟨e, hA⟩ | ⟨i, A, e, _⟩
 ·exfalso
  have hA2 : AtN exL ([97] ++ [98]) [] := by
   rcases sets_go h h0 [97, 98] with ⟨e2, hB⟩ | ⟨i, A, e2, _⟩
   ·exact hB
   ·have e3 : X5.goX D [97, 98] 0 = X5.behX D (X5.goX D [97] 0) 98 := rfl
    rw [e3, e] at e2
    have : X5.behX D (-1) 98 = -1 := by unfold X5.behX; simp
    rw [this] at e2; omega
  have := (none_run hA2).ext ex_runAB
  omega
 ·rw [← e1, e]; omega
end Go.Proofs.YtochckefnjobhaaGreatDoor
namespace Go.Proofs.YtochckefnjobhaaGreatDoor
open Go Go.RowKit Go.Lib
open X3 (RX Pl)
open X5 (Aut)
set_option linter.unusedVariables false
set_option linter.unusedSimpArgs false
theorem row_only {w : World} {r : X3.RX} {k x y z u : Int} {o : Option Addr} {n c : Nat} (h : RepS (fun g => g < w.heap.size) w r (nodeV k x y z u (.slice o n c))) :
  ∃ wa, w.alloc (.cells #[.int .i64 k, .int .u64 x, .int .u64 y, .int .u64 z, .int .u64 u, .slice o n c] 46) = wa ∧ RowR (fun g => g < wa.heap.size) wa (.slice (some ⟨w.heap.size, 0, none⟩) 1 1) [r] ∧ Below w.heap.size w wa ∧ wa.heap.size = w.heap.size + 1 := by
 have hb : Below w.heap.size w (w.alloc (.cells #[.int .i64 k, .int .u64 x, .int .u64 y, .int .u64 z, .int .u64 u, .slice o n c] 46)) := (Below.refl _ _).alloc (Nat.le_refl _) _
 have hn := new_block w (.cells #[.int .i64 k, .int .u64 x, .int .u64 y, .int .u64 z, .int .u64 u, .slice o n c] 46 (0, 0))
 have hc : ∀ j, _ = _ := fun j => Lib.cell_of_heap hn j
 refine ⟨_, rfl, ⟨.inr ⟨w.heap.size, 1, rfl, by simp, by simp, Nat.le_refl _, ?_⟩⟩, hb, by simp⟩
 exact .cons r _ _ 0 k x y z u _ (rep_next h hb) (hc 0) (hc 1) (hc 2) (hc 3) (hc 4) (hc 5) (.nil _ _)
theorem nvs_at (cs : List Nat) (k : Nat) (hk : k < cs.length) : (nvs cs)[k]? = some (.int .i64 ((cs.getD k 0 : Nat) : Int)) := by
 unfold nvs
 rw [List.getElem?_toArray, List.getElem?_map, List.getElem?_eq_getElem hk, List.getD_eq_getElem?_getD, List.getElem?_eq_getElem hk]
 rfl
theorem wp_load30 {o : Oper} {a : Act} {w : World} {K : Act → World → Prop} {Q : Exit → Act → World → Prop} (p : Operand) (hop : o.op = .load 26 p) (g : Nat) (hp : a.eval p = .pointer (some ⟨g, 0, none⟩)) (cs : Array Value) (hb : w.heap[g]? = some (.cells cs 26 (0, 0))) (h1 : cs.size = 258)
  (hK : K (a.put o.dst (.agg cs)) w) : o.wp Tryz.prog a w K Q :=
 wp_load_row 26 p hop g hp 26 cs (0, 0) _ hb Tryz.underlying26 rfl (by rw [size30, h1]) hK
theorem exec_load30 {o : Oper} {a : Act} {w : World} (p : Operand) (hop : o.op = .load 26 p) (g : Nat) (hp : a.eval p = .pointer (some ⟨g, 0, none⟩)) (cs : Array Value) (hb : w.heap[g]? = some (.cells cs 26 (0, 0))) (h1 : cs.size = 258) :
  (execOp a.eval o).run Tryz.prog w = .ok (.value (.agg cs)) w := by
 unfold execOp
 simp only [hop, hp, Instr.loadAt, Instr.sureAddr, Sem.run_bind, Sem.run_pure, Result.andThen_ok, run_loadVar_row w g 26 26 cs (0, 0) _ hb Tryz.underlying26 rfl (by rw [size30, h1])]
end Go.Proofs.YtochckefnjobhaaGreatDoor
