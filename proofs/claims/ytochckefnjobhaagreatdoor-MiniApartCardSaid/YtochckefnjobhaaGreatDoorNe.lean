/- nfa's machine: add. -/
import Derived.Test.YtochckefnjobhaaGreatDoorNa
namespace Go.Proofs.YtochckefnjobhaaGreatDoor
open Go Go.RowKit Go.Lib
open X3 (RX Pl)
set_option linter.unusedVariables false
set_option linter.unusedSimpArgs false
set_option maxRecDepth 100000 in
set_option maxHeartbeats 4000000 in
theorem add_any (T : Nat → Nat) (B m : Nat) (w : World) (pv : Value) (AS : List Value) (P : List Pl) (b : RX) (next : Nat) (t : Nat) (ht : t = T P.length) (h : MRep T B m w pv AS P) (hP : P.length ≤ 200000000000) (hBw : B ≤ w.heap.size) :
  Calls Tryz.prog 94 #[.pointer (some ⟨m, 0, none⟩), .agg (plc t ⟨b, next, []⟩ (.slice none 0 0)).toArray] w fun e w' => ∃ pv', e = .returned (.int .i64 (P.length : Nat)) ∧ MRep T B m w' pv' (AS ++ [.slice none 0 0]) (P ++ [⟨b, next, []⟩]) ∧ LF w w' (Own m pv AS) (Own m pv' (AS ++ [.slice none 0 0])) := by
 obtain ⟨k, x, y, z, u, hbc, -⟩ := bcs_shape b
 have hpc : plc t ⟨b, next, []⟩ (.slice none 0 0) = [.int .i64 k, .int .u64 x, .int .u64 y, .int .u64 z, .int .u64 u, noKids, .int .i64 (next : Int), .slice none 0 0, .int .u64 (t : Int)] := by simp [plc, hbc]
 have HPC := hid hpc
 have HTT := hid ht
 clear ht
 rw [hpc]
 show Calls Tryz.prog 94 #[.pointer (some ⟨m, 0, none⟩), .agg #[.int .i64 k, .int .u64 x, .int .u64 y, .int .u64 z, .int .u64 u, noKids, .int .i64 (next : Int), .slice none 0 0, .int .u64 (t : Int)]] w _
 clear hpc hbc
 have hml : m < w.heap.size := (Array.getElem?_eq_some_iff.1 h.box).1
 obtain ⟨w0, e0⟩ : ∃ w0, w.alloc (.cells #[.int .i64 k, .int .u64 x, .int .u64 y, .int .u64 z, .int .u64 u, noKids, .int .i64 (next : Int), .slice none 0 0, .int .u64 (t : Int)] 159) = w0 := ⟨_, rfl⟩
 have hb0 : Below w.heap.size w w0 := by rw [← e0]; exact (Below.refl _ _).alloc (Nat.le_refl _) _
 have hz0 : w0.heap[w.heap.size]? = some (.cells #[.int .i64 k, .int .u64 x, .int .u64 y, .int .u64 z, .int .u64 u, noKids, .int .i64 (next : Int), .slice none 0 0, .int .u64 (t : Int)] 159 (0, 0)) := by rw [← e0]; exact new_block _ _
 have hs0 : w0.heap.size = w.heap.size + 1 := by rw [← e0]; simp
 obtain ⟨wd, hwd⟩ : ∃ wd, w0.drew = wd := ⟨_, rfl⟩
 have hbd : Below w.heap.size w wd := by rw [← hwd]; exact hb0.drew
 have hzd : wd.heap[w.heap.size]? = some (.cells #[.int .i64 k, .int .u64 x, .int .u64 y, .int .u64 z, .int .u64 u, noKids, .int .i64 (next : Int), .slice none 0 0, .int .u64 (t : Int)] 159 (0, 0)) := by rw [← hwd]; exact hz0
 have hsd : wd.heap.size = w.heap.size + 1 := by rw [← hwd]; exact hs0
 have hM := h.below hbd
 have pcell : ∀ (w' : World), w'.heap[w.heap.size]? = some (.cells #[.int .i64 k, .int .u64 x, .int .u64 y, .int .u64 z, .int .u64 u, noKids, .int .i64 (next : Int), .slice none 0 0, .int .u64 (t : Int)] 159 (0, 0)) → (w'.cell? ⟨w.heap.size, 0, none⟩ = some (.int .i64 k) ∧ w'.cell? ⟨w.heap.size, 1, none⟩ = some (.int .u64 x) ∧ w'.cell? ⟨w.heap.size, 2, none⟩ = some (.int .u64 y) ∧ w'.cell? ⟨w.heap.size, 3, none⟩ = some (.int .u64 z) ∧ w'.cell? ⟨w.heap.size, 4, none⟩ = some (.int .u64 u) ∧ w'.cell? ⟨w.heap.size, 5, none⟩ = some noKids ∧ w'.cell? ⟨w.heap.size, 6, none⟩ = some (.int .i64 (next : Int)) ∧ w'.cell? ⟨w.heap.size, 7, none⟩ = some (.slice none 0 0) ∧ w'.cell? ⟨w.heap.size, 8, none⟩ = some (.int .u64 (t : Int))) := by
  intro w' hh
  refine ⟨?_, ?_, ?_, ?_, ?_, ?_, ?_, ?_, ?_⟩ <;> (rw [Lib.cell_of_heap hh]; rfl)
 have PC := hid pcell
 clear pcell
 have cm : wd.cell? ⟨m, 0, none⟩ = some pv := by rw [Lib.cell_of_heap hM.box]; rfl
 have HM := hid hM
 have HH := hid h
 clear hM h
 go_enter Tryz.func94, Tryz.ntmps94
 go_upto_region 1 with fail
 refine region_T 10 (fun w' => w'.cell? ⟨m, 0, none⟩ = some pv ∧ (w'.cell? ⟨w.heap.size, 0, none⟩ = some (.int .i64 k) ∧ w'.cell? ⟨w.heap.size, 1, none⟩ = some (.int .u64 x) ∧ w'.cell? ⟨w.heap.size, 2, none⟩ = some (.int .u64 y) ∧ w'.cell? ⟨w.heap.size, 3, none⟩ = some (.int .u64 z) ∧ w'.cell? ⟨w.heap.size, 4, none⟩ = some (.int .u64 u) ∧ w'.cell? ⟨w.heap.size, 5, none⟩ = some noKids ∧ w'.cell? ⟨w.heap.size, 6, none⟩ = some (.int .i64 (next : Int)) ∧ w'.cell? ⟨w.heap.size, 7, none⟩ = some (.slice none 0 0) ∧ w'.cell? ⟨w.heap.size, 8, none⟩ = some (.int .u64 (t : Int)))) (by kernel_rfl) (by rw [hwd]; exact ⟨cm, PC.out _ hzd⟩) (fun inv hHeld => ?_)
 rw [hwd] at hHeld ⊢
 clear hwd e0
 refine anyT_take (i := 0) (oi := { dst := some 5, op := Op.move (Operand.tmp 0), type := 127, pos := "nfa.go:108", after := #[], guard := none }) (v := ?_) rfl (by kernel_rfl) (by kernel_rfl) (by kernel_rfl) (by decide) (by decide) (by kernel_rfl) (by kernel_rfl) (fun _ _ _ h => h) (Or.inl ⟨by rfl, ?_⟩) hHeld inv (fun inv => ?_)
 rotate_left
 ·intro w hSw
  try dsimp only at hSw
  go_simp
  try with_reducible rfl
 simp only [Act.put, List.setIfInBounds_toArray, List.set_cons_zero, List.set_cons_succ]
 refine anyT_take (i := 1) (oi := { dst := some 6, op := Op.move (Operand.tmp 0), type := 127, pos := "nfa.go:108", after := #[], guard := none }) (v := ?_) rfl (by kernel_rfl) (by kernel_rfl) (by kernel_rfl) (by decide) (by decide) (by kernel_rfl) (by kernel_rfl) (fun _ _ _ h => h) (Or.inl ⟨by rfl, ?_⟩) hHeld inv (fun inv => ?_)
 rotate_left
 ·intro w hSw
  try dsimp only at hSw
  go_simp
  try with_reducible rfl
 simp only [Act.put, List.setIfInBounds_toArray, List.set_cons_zero, List.set_cons_succ]
 refine anyT_take (i := 2) (oi := { dst := some 7, op := Op.nilCheck (Operand.tmp 6), type := 0, pos := "nfa.go:108", after := #[{ on := 1, ground := Ground.data }], guard := none }) (v := ?_) rfl (by kernel_rfl) (by kernel_rfl) (by kernel_rfl) (by decide) (by decide) (by kernel_rfl) (by kernel_rfl) (fun _ _ _ h => h) (Or.inl ⟨by rfl, ?_⟩) hHeld inv (fun inv => ?_)
 rotate_left
 ·intro w hSw
  try dsimp only at hSw
  go_simp
  try with_reducible rfl
 simp only [Act.put, List.setIfInBounds_toArray, List.set_cons_zero, List.set_cons_succ]
 refine anyT_take (i := 3) (oi := { dst := some 8, op := Op.fieldAddr 156 (Operand.tmp 7) 0, type := 0, pos := "nfa.go:108", after := #[{ on := 2, ground := Ground.data }], guard := none }) (v := ?_) rfl (by kernel_rfl) (by kernel_rfl) (by kernel_rfl) (by decide) (by decide) (by kernel_rfl) (by kernel_rfl) (fun _ _ _ h => h) (Or.inl ⟨by rfl, ?_⟩) hHeld inv (fun inv => ?_)
 rotate_left
 ·intro w hSw
  try dsimp only at hSw
  go_simp
  try with_reducible rfl
 simp only [Act.put, List.setIfInBounds_toArray, List.set_cons_zero, List.set_cons_succ]
 refine anyT_take (i := 4) (oi := { dst := some 9, op := Op.load 154 (Operand.tmp 8), type := 154, pos := "nfa.go:108", after := #[{ on := 3, ground := Ground.data }], guard := none }) (v := ?_) rfl (by kernel_rfl) (by kernel_rfl) (by kernel_rfl) (by decide) (by decide) (by kernel_rfl) (by kernel_rfl) (fun _ _ _ h => h) (Or.inl ⟨by rfl, ?_⟩) hHeld inv (fun inv => ?_)
 rotate_left
 ·intro w hSw
  try dsimp only at hSw
  go_simp
  try with_reducible rfl
 simp only [Act.put, List.setIfInBounds_toArray, List.set_cons_zero, List.set_cons_succ]
 refine anyT_take (i := 5) (oi := { dst := some 10, op := Op.load 159 (Operand.tmp 3), type := 159, pos := "nfa.go:108", after := #[], guard := none }) (v := ?_) rfl (by kernel_rfl) (by kernel_rfl) (by kernel_rfl) (by decide) (by decide) (by kernel_rfl) (by kernel_rfl) (fun _ _ _ h => h) (Or.inl ⟨by rfl, ?_⟩) hHeld inv (fun inv => ?_)
 rotate_left
 ·intro w hSw
  try dsimp only at hSw
  go_simp
  try with_reducible rfl
 simp only [Act.put, List.setIfInBounds_toArray, List.set_cons_zero, List.set_cons_succ]
 obtain ⟨w3, e3⟩ : ∃ w3, wd.alloc (.cells #[.int .i64 k, .int .u64 x, .int .u64 y, .int .u64 z, .int .u64 u, noKids, .int .i64 (next : Int), .slice none 0 0, .int .u64 (t : Int)] 159) = w3 := ⟨_, rfl⟩
 have hb3 : Below wd.heap.size wd w3 := by rw [← e3]; exact (Below.refl _ _).alloc (Nat.le_refl _) _
 have hn3 : w3.heap[wd.heap.size]? = some (.cells #[.int .i64 k, .int .u64 x, .int .u64 y, .int .u64 z, .int .u64 u, noKids, .int .i64 (next : Int), .slice none 0 0, .int .u64 (t : Int)] 159 (0, 0)) := by rw [← e3]; exact new_block _ _
 have hs3 : w3.heap.size = w.heap.size + 1 + 1 := by rw [← e3]; simp [hsd]
 have hz3 := (hb3.block w.heap.size (by omega)).trans hzd
 have hM3 := HM.out.below hb3
 have cm3 : w3.cell? ⟨m, 0, none⟩ = some pv := by rw [Lib.cell_of_heap hM3.box]; rfl
 have HM3 := hid hM3
 clear hM3
 refine anyT_next (i := 6) (o := { dst := some 11, op := Op.buildSlice 154 1 #[(0, Operand.tmp 10)], type := 154, pos := "nfa.go:108", after := #[{ on := 5, ground := Ground.data }], guard := none }) (by kernel_rfl) rfl (by decide) inv (fun inv K' hK => ?_)
 go_simp
 refine hK.out _ _ ⟨cm3, PC.out _ hz3⟩ ?_
 clear hK K'
 try simp only [Act.put, List.setIfInBounds_toArray, List.set_cons_zero, List.set_cons_succ]
 obtain ⟨i0, hi, hq0, hq1, hq2⟩ := info_parts info64
 refine anyT_next (i := 7) (o := { dst := some 12, op := Op.call { callee := Callee.builtin Builtin.append, args := #[Operand.tmp 9, Operand.tmp 11], argTypes := #[154, 154] }, type := 154, pos := "nfa.go:108", after := #[{ on := 4, ground := Ground.data }, { on := 6, ground := Ground.data }], guard := none }) (by kernel_rfl) rfl (by decide) inv (fun inv K' hK => ?_)
 simp only [Region.wanted]
 rw [if_pos trivial]
 refine wp_append_own_at (.tmp 9) (.tmp 11) 154 rfl B 159 i0 (.agg zero9) 9 104 Tryz.underlying154 hi hq0 hq1 hq2 rfl (by decide) pv P.length _ rfl HM3.out.row ⟨w.heap.size + 1, 0, none⟩ 1 1 [.int .i64 k, .int .u64 x, .int .u64 y, .int .u64 z, .int .u64 u, noKids, .int .i64 (next : Int), .slice none 0 0, .int .u64 (t : Int)] rfl rfl ?c1 ?c2 ?c3 ?c4 ?c5 ?_
 case c1 =>
  intro j v hj
  rw [hsd] at hn3
  have := Lib.cell_of_heap hn3 j
  rw [show (⟨w.heap.size + 1, 0, none⟩ : Addr).add j = ⟨w.heap.size + 1, j, none⟩ by simp [Addr.add]; omega]
  rw [this, ← hj]
  simp
 case c2 => intro v hv; simp at hv; rcases hv with rfl | rfl | rfl | rfl | rfl | rfl | rfl | rfl | rfl <;> rfl
 case c3 => unfold maxLen; omega
 case c4 => omega
 case c5 => omega
 intro v' w4 hown' hgrow hnil hat
 have hm4 := (hgrow.block m (by omega) (fun e => HM3.out.apm e.symm)).trans HM3.out.box
 have hz4 := (hgrow.block w.heap.size (by omega) (fun e => by have := (HH.out.row.lt _ e.symm).2; omega)).trans hz3
 have cm4 : w4.cell? ⟨m, 0, none⟩ = some pv := by rw [Lib.cell_of_heap hm4]; rfl
 have fm4 : w4.frozen? ⟨m, 0, none⟩ = false := Lib.frozen_of_heap hm4 0
 obtain ⟨vo, vc, rfl⟩ : ∃ vo vc, v' = .slice vo (P.length + 1) vc := by
  rcases hown'.2 with ⟨_, h0⟩ | ⟨g, cap, cur, rfl, _⟩
  ·omega
  ·exact ⟨_, _, rfl⟩
 have HF := hid (HM3.out.pushed (pl := ⟨b, next, []⟩) rfl (by rw [← HTT.out, HPC.out]; exact hown') hgrow hat)
 have hml4 : m < w4.heap.size := (Array.getElem?_eq_some_iff.1 hm4).1
 have cm5 : (w4.setCell ⟨m, 0, none⟩ (.slice vo (P.length + 1) vc)).cell? ⟨m, 0, none⟩ = some (.slice vo (P.length + 1) vc) := by rw [Lib.cell_of_heap HF.out.box]; rfl
 obtain ⟨w5, e5⟩ : ∃ w5, w4.setCell ⟨m, 0, none⟩ (.slice vo (P.length + 1) vc) = w5 := ⟨_, rfl⟩
 have hl5 : LF w w5 (Own m pv AS) (Own m (.slice vo (P.length + 1) vc) (AS ++ [.slice none 0 0])) := by
  rw [← e5]
  refine ⟨hgrow.os.trans (hb3.os.trans hbd.os), hgrow.tape.trans (hb3.tape.trans hbd.tape), hgrow.output.trans (hb3.output.trans hbd.output), by have := hgrow.size; simp; omega, fun g hg hO => ?_, fun g hg => ?_⟩
  ·exact (Below.heap_setCell w4 ⟨m, 0, none⟩ _ g (fun e => hO (.inl e))).trans ((hgrow.block g (by omega) (fun e => hO (.inr (.inl e.symm)))).trans ((hb3.block g (by omega)).trans (hbd.block g hg)))
  ·rcases hg with h1 | h1 | ⟨a, ha, h1⟩
   ·exact .inl (.inl h1)
   ·rcases hat with e | e
    ·exact .inl (.inr (.inl (by rw [← e]; exact h1)))
    ·rw [e] at h1; obtain rfl := Option.some.inj h1; exact .inr (by omega)
   ·simp at ha
    rcases ha with ha | rfl
    ·exact .inl (.inr (.inr ⟨a, ha, h1⟩))
    ·cases h1
 rw [e5] at cm5
 have HF5 : Hid (MRep T B m w5 (.slice vo (P.length + 1) vc) (AS ++ [.slice none 0 0]) (P ++ [⟨b, next, []⟩])) := by rw [← e5]; exact HF.out
 clear hown' hgrow hnil hat HF
 refine hK.out _ _ ⟨cm4, PC.out _ hz4⟩ ?_
 clear hK K'
 try simp only [Act.put, List.setIfInBounds_toArray, List.set_cons_zero, List.set_cons_succ]
 refine anyT_take (i := 8) (oi := { dst := some 13, op := Op.nilCheck (Operand.tmp 5), type := 0, pos := "nfa.go:108", after := #[{ on := 0, ground := Ground.data }, { on := 0, ground := Ground.phase }, { on := 1, ground := Ground.phase }, { on := 2, ground := Ground.phase }, { on := 3, ground := Ground.phase }, { on := 4, ground := Ground.phase }, { on := 5, ground := Ground.phase }, { on := 6, ground := Ground.phase }, { on := 7, ground := Ground.phase }], guard := none }) (v := ?_) rfl (by kernel_rfl) (by kernel_rfl) (by kernel_rfl) (by decide) (by decide) (by kernel_rfl) (by kernel_rfl) (fun _ _ _ h => h) (Or.inl ⟨by rfl, ?_⟩) ⟨cm4, PC.out _ hz4⟩ inv (fun inv => ?_)
 rotate_left
 ·intro w hSw
  try dsimp only at hSw
  go_simp
  try with_reducible rfl
 simp only [Act.put, List.setIfInBounds_toArray, List.set_cons_zero, List.set_cons_succ]
 refine anyT_take (i := 9) (oi := { dst := some 14, op := Op.fieldAddr 156 (Operand.tmp 13) 0, type := 0, pos := "nfa.go:108", after := #[{ on := 8, ground := Ground.data }, { on := 0, ground := Ground.phase }, { on := 1, ground := Ground.phase }, { on := 2, ground := Ground.phase }, { on := 3, ground := Ground.phase }, { on := 4, ground := Ground.phase }, { on := 5, ground := Ground.phase }, { on := 6, ground := Ground.phase }, { on := 7, ground := Ground.phase }], guard := none }) (v := ?_) rfl (by kernel_rfl) (by kernel_rfl) (by kernel_rfl) (by decide) (by decide) (by kernel_rfl) (by kernel_rfl) (fun _ _ _ h => h) (Or.inl ⟨by rfl, ?_⟩) ⟨cm4, PC.out _ hz4⟩ inv (fun inv => ?_)
 rotate_left
 ·intro w hSw
  try dsimp only at hSw
  go_simp
  try with_reducible rfl
 simp only [Act.put, List.setIfInBounds_toArray, List.set_cons_zero, List.set_cons_succ]
 refine anyT_one (i := 10) (o := { dst := none, op := Op.store 154 (Operand.tmp 14) (Operand.tmp 12), type := 0, pos := "nfa.go:108", after := #[{ on := 9, ground := Ground.data }, { on := 7, ground := Ground.data }, { on := 7, ground := Ground.chain }, { on := 0, ground := Ground.phase }, { on := 1, ground := Ground.phase }, { on := 2, ground := Ground.phase }, { on := 3, ground := Ground.phase }, { on := 4, ground := Ground.phase }, { on := 5, ground := Ground.phase }, { on := 6, ground := Ground.phase }, { on := 7, ground := Ground.phase }], guard := none }) (by kernel_rfl) rfl (fun K' hK => ?_)
 go_simp
 refine hK.out _ _ (fun h => absurd h (by decide)) ?_
 clear hK K'
 try simp only [Act.put, List.setIfInBounds_toArray, List.set_cons_zero, List.set_cons_succ]
 refine anyT_done (by kernel_rfl) ?_ _
 clear cm4 fm4 hm4
 go_wp2_with fail
 go_ret
 exact ⟨_, rfl, HF5.out, hl5⟩
end Go.Proofs.YtochckefnjobhaaGreatDoor
namespace Go.Proofs.YtochckefnjobhaaGreatDoor
open Go Go.RowKit Go.Lib
open X3 (RX Pl)
set_option linter.unusedVariables false
set_option linter.unusedSimpArgs false
def LayP (T : Nat → Nat) (B m : Nat) (w : World) (pv : Value) (AS : List Value) (r : Nat × List Pl) (e : Ending) (w' : World) : Prop :=
 ∃ pv' AS', e = .returned (.int .i64 (r.1 : Nat)) ∧ MRep T B m w' pv' AS' r.2 ∧ LF w w' (Own m pv AS) (Own m pv' AS')
structure B3 (w w0 : World) (m b : Nat) (k x y z u : Int) (kv : Value) : Prop where
 bl : Below w.heap.size w w0
 sz : w0.heap.size = w.heap.size + 1 + 1 + 1
 h0 : w0.heap[w.heap.size]? = some (.cells #[.pointer (some ⟨m, 0, none⟩)] 127 (0, 0))
 h1 : w0.heap[w.heap.size + 1]? = some (.cells #[.int .i64 k, .int .u64 x, .int .u64 y, .int .u64 z, .int .u64 u, kv] 46 (0, 0))
 h2 : w0.heap[w.heap.size + 1 + 1]? = some (.cells #[.int .i64 (b : Int)] 3 (0, 0))
theorem boxes3 (m b : Nat) (k x y z u : Int) (kv : Value) (w : World) : ∃ w0, ((w.alloc (.cells #[.pointer (some ⟨m, 0, none⟩)] 127)).alloc (.cells #[.int .i64 k, .int .u64 x, .int .u64 y, .int .u64 z, .int .u64 u, kv] 46)).alloc (.cells #[.int .i64 (b : Int)] 3) = w0 ∧ B3 w w0 m b k x y z u kv := by
 refine ⟨_, rfl, ?_, by simp, ?_, ?_, ?_⟩
 ·exact (((Below.refl _ _).alloc (Nat.le_refl _) _).alloc (by simp) _).alloc (by simp; omega) _
 ·exact (Below.heap_alloc _ _ _ (by simp; omega)).trans ((Below.heap_alloc _ _ _ (by simp)).trans (new_block _ _))
 ·have := new_block (w.alloc (.cells #[.pointer (some ⟨m, 0, none⟩)] 127)) (.cells #[.int .i64 k, .int .u64 x, .int .u64 y, .int .u64 z, .int .u64 u, kv] 46)
  rw [World.size_alloc] at this
  exact (Below.heap_alloc _ _ _ (by simp)).trans this
 ·have := new_block ((w.alloc (.cells #[.pointer (some ⟨m, 0, none⟩)] 127)).alloc (.cells #[.int .i64 k, .int .u64 x, .int .u64 y, .int .u64 z, .int .u64 u, kv] 46)) (.cells #[.int .i64 (b : Int)] 3)
  rw [World.size_alloc, World.size_alloc] at this
  exact this
theorem cell1 {w : World} {g : Nat} {v : Value} {t : TypeId} (h : w.heap[g]? = some (.cells #[v] t (0, 0))) : w.cell? ⟨g, 0, none⟩ = some v := by rw [Lib.cell_of_heap h]; rfl
theorem lay_empty (T : Nat → Nat) (B m b : Nat) (w : World) (pv : Value) (AS : List Value) (P : List Pl) (hM : MRep T B m w pv AS P) :
  Calls Tryz.prog 95 #[.pointer (some ⟨m, 0, none⟩), nodeV 0 0 0 0 0 noKids, .int .i64 (b : Int)] w (LayP T B m w pv AS (b, P)) := by
 obtain ⟨w0, e0, hB⟩ := boxes3 m b 0 0 0 0 0 noKids w
 have HM := hid hM
 clear hM
 obtain ⟨p0, p1, p2, p3, p4, p5⟩ := cells6 hB.h1
 have q := cell1 hB.h2
 have HB := hid hB.bl
 have hsz := hB.sz
 clear hB
 go_enter Tryz.func95, Tryz.ntmps95
 go_wp2_with fail
 go_ret
 exact ⟨pv, AS, rfl, HM.out.below HB.out, LF.ofBelow HB.out⟩
set_option maxRecDepth 100000 in
set_option maxHeartbeats 2000000 in
theorem lay_bytes (T : Nat → Nat) (B m b : Nat) (w : World) (pv : Value) (AS : List Value) (P : List Pl) (x y z u : Nat) (hM : MRep T B m w pv AS P) (hP : P.length ≤ 200000000000) (hBw : B ≤ w.heap.size) (hT : T P.length = 0) :
  Calls Tryz.prog 95 #[.pointer (some ⟨m, 0, none⟩), nodeV 1 x y z u noKids, .int .i64 (b : Int)] w (LayP T B m w pv AS (P.length, P ++ [⟨.bytes x y z u, b, []⟩])) := by
 obtain ⟨w0, e0, hB⟩ := boxes3 m b 1 x y z u noKids w
 have hs := hB.sz
 have KA := hid (add_any T B m w0 pv AS P (.bytes x y z u) b 0 hT.symm (hM.below hB.bl) hP (by omega))
 obtain ⟨p0, p1, p2, p3, p4, p5⟩ := cells6 hB.h1
 have q := cell1 hB.h2
 have q0 := cell1 hB.h0
 have HB := hid hB.bl
 have HM := hid hM
 clear hM hB
 go_enter Tryz.func95, Tryz.ntmps95
 go_wp2_with fail
 refine KA.out.mono ?_
 rintro e w1 ⟨pv', rfl, hM', hl⟩
 have HM' := hid hM'
 have HL := hid hl
 clear hM' hl
 go_wp2_with fail
 go_ret
 exact ⟨pv', _, rfl, HM'.out, (LF.ofBelow HB.out).trans HL.out⟩
end Go.Proofs.YtochckefnjobhaaGreatDoor
namespace Go.Proofs.X4
open Go Go.Proofs.X3
set_option linter.unusedVariables false
def stX (l : List RX) (b : Nat) (P : List Pl) (xs : List (Fin l.length)) : Nat × List Pl := xs.foldl (fun s x => layX l[x] s.1 s.2) (b, P)
theorem st_snoc (l : List RX) (b : Nat) (P : List Pl) (xs : List (Fin l.length)) (x : Fin l.length) : stX l b P (xs ++ [x]) = layX l[x] (stX l b P xs).1 (stX l b P xs).2 := by
 unfold stX; rw [List.foldl_append]; rfl
theorem st_all (l : List RX) (b : Nat) (P : List Pl) : ∀ (d : Nat) (xs : List (Fin l.length)), d ≤ l.length → xs.map (·.val) = Go.Proofs.YtochckefnjobhaaGreatDoor.backTo l.length (l.length - d) → stX l b P xs = layCat (l.drop (l.length - d)) b P := by
 intro d
 induction d with
 | zero =>
  intro xs _ h
  rw [Nat.sub_zero, Go.Proofs.YtochckefnjobhaaGreatDoor.backTo_all] at h
  obtain rfl := List.map_eq_nil_iff.1 h
  rw [Nat.sub_zero, List.drop_length]; rfl
 | succ d ih =>
  intro xs hd h
  have hlt : l.length - (d + 1) < l.length := by omega
  have e : l.length - (d + 1) + 1 = l.length - d := by omega
  rw [← Go.Proofs.YtochckefnjobhaaGreatDoor.backTo_next hlt, e] at h
  obtain ⟨ys, zs, rfl, h1, h2⟩ := List.map_eq_append_iff.1 h
  obtain ⟨z, rfl, hz⟩ : ∃ z, zs = [z] ∧ z.val = l.length - (d + 1) := by
   cases zs with
   | nil => simp at h2
   | cons z zs =>
    simp only [List.map_cons, List.cons.injEq, List.map_eq_nil_iff] at h2
    exact ⟨z, by rw [h2.2], h2.1⟩
  rw [st_snoc, ih ys (by omega) h1, List.drop_eq_getElem_cons hlt, e]
  simp only [layCat, Fin.getElem_fin, hz]
theorem kid_le (l : List RX) (x : Fin l.length) : l[x].size ≤ sizeL l := by
 have := Go.Proofs.YtochckefnjobhaaGreatDoor.size_in l x.val x.isLt
 simpa using this
theorem st_sound (l : List RX) (b : Nat) (P : List Pl) (hB : Bd P P.length) (hb : b < P.length) (xs : List (Fin l.length)) :
  Bd (stX l b P xs).2 (stX l b P xs).2.length ∧ (stX l b P xs).1 < (stX l b P xs).2.length ∧ P.length ≤ (stX l b P xs).2.length ∧ (stX l b P xs).2.length ≤ P.length + xs.length * sizeL l ∧ muL (stX l b P xs).2 ≤ muL P + 4 * (xs.length * sizeL l) := by
 induction h : xs.length generalizing xs with
 | zero =>
  obtain rfl := List.length_eq_zero_iff.1 h
  exact ⟨hB, hb, Nat.le_refl _, by simp [stX], by simp [stX]⟩
 | succ n ih =>
  have hne : xs ≠ [] := fun e => by rw [e] at h; simp at h
  obtain ⟨ys, x, rfl⟩ : ∃ ys x, xs = ys ++ [x] := ⟨xs.dropLast, xs.getLast hne, (List.dropLast_concat_getLast hne).symm⟩
  obtain ⟨i1, i2, i3, i4, i5⟩ := ih ys (by simpa using h)
  have hs := lay_sound l[x] (stX l b P ys).1 (stX l b P ys).2 i1 i2
  have hk := lay_keep l[x] (stX l b P ys).1 (stX l b P ys).2
  have hle := kid_le l x
  rw [st_snoc]
  have h4 := hs.len
  have h5 := hs.mu
  have h6 := hk.1
  rw [Nat.succ_mul]
  exact ⟨hs.bd, hs.lt, by omega, by omega, by omega⟩
theorem cube (M k : Nat) (h : k ≤ M) : k * k * k + M * M + M + 1 ≤ (1 + M) * (1 + M) * (1 + M) := by
 have h1 : k * k ≤ M * M := Nat.mul_le_mul h h
 have h2 : k * k * k ≤ M * M * M := Nat.mul_le_mul h1 h
 have e : (1 + M) * (1 + M) * (1 + M) = 1 + 3 * M + 3 * (M * M) + M * M * M := by
  simp only [Nat.add_mul, Nat.mul_add, Nat.one_mul, Nat.mul_one]
  omega
 rw [e]
 have := Nat.zero_le (M * M)
 omega
end Go.Proofs.X4
namespace Go.Proofs.X4
open Go Go.Proofs.X3
set_option linter.unusedVariables false
def Ag (n : Nat) (P P' : List Pl) : Prop := P.length = P'.length ∧ ∀ k, n ≤ k → P[k]? = P'[k]?
theorem Ag.app {n : Nat} {P P' : List Pl} (h : Ag n P P') (x : Pl) : Ag n (P ++ [x]) (P' ++ [x]) := by
 refine ⟨by simp [h.1], fun k hk => ?_⟩
 by_cases c : k < P.length
 ·rw [List.getElem?_append_left c, List.getElem?_append_left (by rw [← h.1]; exact c)]; exact h.2 k hk
 ·rw [List.getElem?_append_right (by omega), List.getElem?_append_right (by rw [← h.1]; omega), h.1]
theorem Ag.add {n : Nat} {P P' : List Pl} (h : Ag n P P') (a f : Nat) : Ag n (addAlso P a f) (addAlso P' a f) := by
 refine ⟨by rw [addAlso_len, addAlso_len]; exact h.1, fun k hk => ?_⟩
 by_cases c : k = a
 ·subst c
  unfold addAlso
  rw [List.getElem?_modify, List.getElem?_modify, h.2 k hk]
 ·rw [addAlso_ne _ c, addAlso_ne _ c]; exact h.2 k hk
theorem Ag.set {n : Nat} {P P' : List Pl} (h : Ag n P P') (a : Nat) (l : List Nat) : Ag n (setAlso P a l) (setAlso P' a l) := by
 refine ⟨by rw [setAlso_len, setAlso_len]; exact h.1, fun k hk => ?_⟩
 by_cases c : k = a
 ·subst c
  unfold setAlso
  rw [List.getElem?_modify, List.getElem?_modify, h.2 k hk]
 ·rw [setAlso_ne _ c, setAlso_ne _ c]; exact h.2 k hk
mutual
theorem lay_ag (n : Nat) : ∀ (r : RX) (b : Nat) (P P' : List Pl), Ag n P P' → (layX r b P).1 = (layX r b P').1 ∧ Ag n (layX r b P).2 (layX r b P').2
 | .empty, b, P, P', h => ⟨rfl, h⟩
 | .bytes x y z u, b, P, P', h => ⟨h.1, h.app _⟩
 | .cat l, b, P, P', h => layCat_ag n l b P P' h
 | .alt l, b, P, P', h => by
  simp only [layX]
  rw [← h.1]
  exact ⟨rfl, layAlt_ag n l P.length b _ _ (h.app _)⟩
 | .star r, b, P, P', h => by
  have hr := lay_ag n r P.length (P ++ [none_]) (P' ++ [none_]) (h.app _)
  simp only [layX]
  rw [← h.1, ← hr.1]
  exact ⟨rfl, hr.2.set _ _⟩
theorem layCat_ag (n : Nat) : ∀ (l : List RX) (b : Nat) (P P' : List Pl), Ag n P P' → (layCat l b P).1 = (layCat l b P').1 ∧ Ag n (layCat l b P).2 (layCat l b P').2
 | [], b, P, P', h => ⟨rfl, h⟩
 | r :: l, b, P, P', h => by
  have h1 := layCat_ag n l b P P' h
  simp only [layCat]
  rw [← h1.1]
  exact lay_ag n r _ _ _ h1.2
theorem layAlt_ag (n : Nat) : ∀ (l : List RX) (a b : Nat) (P P' : List Pl), Ag n P P' → Ag n (layAlt l a b P) (layAlt l a b P')
 | [], a, b, P, P', h => h
 | r :: l, a, b, P, P', h => by
  have h1 := lay_ag n r b P P' h
  simp only [layAlt]
  rw [← h1.1]
  exact layAlt_ag n l a b _ _ (h1.2.add _ _)
end
theorem star_eq (r : RX) (b : Nat) (P : List Pl) : (layX r P.length (setAlso (P ++ [none_]) P.length [b])).1 = (layX r P.length (P ++ [none_])).1 ∧
  addAlso (layX r P.length (setAlso (P ++ [none_]) P.length [b])).2 P.length (layX r P.length (setAlso (P ++ [none_]) P.length [b])).1 = (layX (.star r) b P).2 := by
 have hag : Ag (P.length + 1) (setAlso (P ++ [none_]) P.length [b]) (P ++ [none_]) := ⟨setAlso_len _ _ _, fun k hk => setAlso_ne _ (by omega)⟩
 have h1 := lay_ag (P.length + 1) r P.length _ _ hag
 have k1 := lay_keep r P.length (setAlso (P ++ [none_]) P.length [b])
 have k2 := lay_keep r P.length (P ++ [none_])
 rw [setAlso_len] at k1
 have hl : (P ++ [none_]).length = P.length + 1 := by simp
 rw [hl] at k1 k2
 refine ⟨h1.1, ?_⟩
 simp only [layX]
 rw [h1.1]
 have ha : (P ++ [none_])[P.length]? = some ⟨.empty, 0, []⟩ := by simp [none_]
 refine List.ext_getElem? fun k => ?_
 by_cases c : k = P.length
 ·subst c
  rw [addAlso_at _ (pl := ⟨.empty, 0, [b]⟩) (by rw [k1.2 _ (by omega), setAlso_at _ ha]), setAlso_at _ (pl := ⟨.empty, 0, []⟩) (by rw [k2.2 _ (by omega), ha])]
  rfl
 ·rw [addAlso_ne _ c, setAlso_ne _ c]
  by_cases d : k < P.length
  ·rw [k1.2 _ (by omega), k2.2 _ (by omega), setAlso_ne _ c]
  ·exact h1.2.2 k (by omega)
end Go.Proofs.X4
namespace Go.Proofs.YtochckefnjobhaaGreatDoor
open Go Go.RowKit Go.Lib
open X3 (RX Pl)
set_option linter.unusedVariables false
theorem MRep.cellsKept {T : Nat → Nat} {B m : Nat} {w w' : World} {pv : Value} {AS : List Value} {P : List Pl} (h : MRep T B m w pv AS P) (hk : ∀ (g : Nat) (cs : Array Value) (t : TypeId) (fz : Nat × Nat), w.heap[g]? = some (Obj.cells cs t fz) → w'.heap[g]? = w.heap[g]?) : MRep T B m w' pv AS P := by
 have row : ∀ {e : TypeId} {sz : Nat} {v : Value} {n : Nat} {xs : List Value}, w.ownsRow B e sz v n xs → w'.ownsRow B e sz v n xs := by
  intro e sz v n xs h
  refine owns_kept h fun g hg => ?_
  rcases h.2 with ⟨hn, _⟩ | ⟨g', cap, cur, rfl, hB, hg', rest⟩
  ·rw [hn] at hg; cases hg
  ·obtain rfl := Option.some.inj hg; exact hk _ _ _ _ hg'
 exact ⟨(hk _ _ _ _ h.box).trans h.box, h.mB, row h.row, h.lenA, fun k pl av h1 h2 => row (h.also k pl av h1 h2), h.ap1, h.ap2, h.apm⟩
theorem MRep.ownKept {T : Nat → Nat} {B m : Nat} {w w' : World} {pv : Value} {AS : List Value} {P : List Pl} (h : MRep T B m w pv AS P) (hk : ∀ g : Nat, Own m pv AS g → w'.heap[g]? = w.heap[g]?) : MRep T B m w' pv AS P :=
 ⟨(hk m (.inl rfl)).trans h.box, h.mB, owns_kept h.row (fun g hg => hk g (.inr (.inl hg))), h.lenA, fun k pl av h1 h2 => owns_kept (h.also k pl av h1 h2) (fun g hg => hk g (.inr (.inr ⟨av, List.mem_iff_getElem?.2 ⟨k, h2⟩, hg⟩))), h.ap1, h.ap2, h.apm⟩
theorem row_cells {w : World} {B : Nat} {e : TypeId} {sz : Nat} {v : Value} {n : Nat} {xs : List Value} (h : w.ownsRow B e sz v n xs) {g : Nat} (hg : v.ownBlock = some g) : ∃ (cs : Array Value) (t : TypeId) (fz : Nat × Nat), w.heap[g]? = some (Obj.cells cs t fz) := by
 rcases h.2 with ⟨hn, _⟩ | ⟨g', cap, cur, rfl, hB, hg', rest⟩
 ·rw [hn] at hg; cases hg
 ·obtain rfl := Option.some.inj hg; exact ⟨_, _, _, hg'⟩
theorem MRep.own_cells {T : Nat → Nat} {B m : Nat} {w : World} {pv : Value} {AS : List Value} {P : List Pl} (h : MRep T B m w pv AS P) {g : Nat} (hg : Own m pv AS g) : ∃ (cs : Array Value) (t : TypeId) (fz : Nat × Nat), w.heap[g]? = some (Obj.cells cs t fz) := by
 rcases hg with rfl | hg | ⟨a, ha, hg⟩
 ·exact ⟨_, _, _, h.box⟩
 ·exact row_cells h.row hg
 ·obtain ⟨k, hk⟩ := List.mem_iff_getElem?.1 ha
  have hlt : k < P.length := by rw [← h.lenA]; exact (List.getElem?_eq_some_iff.1 hk).1
  exact row_cells (h.also k _ a (List.getElem?_eq_getElem hlt) hk) hg
theorem cellsP_T {T T' : Nat → Nat} : ∀ (i : Nat) (P : List Pl) (AS : List Value), (∀ k, k < i + P.length → T k = T' k) → cellsP T i P AS = cellsP T' i P AS
 | i, [], _, _ => by simp [cellsP]
 | i, p :: P, [], _ => by simp [cellsP]
 | i, p :: P, a :: AS, h => by
  simp only [cellsP]
  rw [h i (by simp), cellsP_T (i + 1) P AS fun k hk => h k (by simp only [List.length_cons]; omega)]
theorem MRep.turn {T T' : Nat → Nat} {B m : Nat} {w : World} {pv : Value} {AS : List Value} {P : List Pl} (h : MRep T B m w pv AS P) (hT : ∀ k, k < P.length → T k = T' k) : MRep T' B m w pv AS P :=
 ⟨h.box, h.mB, by have := h.row; rwa [cellsP_T 0 P AS (fun k hk => hT k (by omega))] at this, h.lenA, h.also, h.ap1, h.ap2, h.apm⟩
theorem kids_fun {S : Nat → Prop} {w : World} {l : List RX} {g : Nat} (h : RepLS S w l g 0) : ∃ K : Nat → Value, ∀ (k : Nat) (hk : k < l.length), RepS S w l[k] (K k) ∧
  ∃ (kd x y z u : Int) (ko : Option Addr) (kn kc : Nat), K k = .agg #[.int .i64 kd, .int .u64 x, .int .u64 y, .int .u64 z, .int .u64 u, .slice ko kn kc] ∧ w.cell? ⟨g, k * 6, none⟩ = some (.int .i64 kd) ∧ w.cell? ⟨g, k * 6 + 1, none⟩ = some (.int .u64 x) ∧ w.cell? ⟨g, k * 6 + 2, none⟩ = some (.int .u64 y) ∧ w.cell? ⟨g, k * 6 + 3, none⟩ = some (.int .u64 z) ∧ w.cell? ⟨g, k * 6 + 4, none⟩ = some (.int .u64 u) ∧ w.cell? ⟨g, k * 6 + 5, none⟩ = some (.slice ko kn kc) := by
 have : ∀ k : Nat, ∃ v : Value, ∀ hk : k < l.length, RepS S w l[k] v ∧ ∃ (kd x y z u : Int) (ko : Option Addr) (kn kc : Nat), v = .agg #[.int .i64 kd, .int .u64 x, .int .u64 y, .int .u64 z, .int .u64 u, .slice ko kn kc] ∧ w.cell? ⟨g, k * 6, none⟩ = some (.int .i64 kd) ∧ w.cell? ⟨g, k * 6 + 1, none⟩ = some (.int .u64 x) ∧ w.cell? ⟨g, k * 6 + 2, none⟩ = some (.int .u64 y) ∧ w.cell? ⟨g, k * 6 + 3, none⟩ = some (.int .u64 z) ∧ w.cell? ⟨g, k * 6 + 4, none⟩ = some (.int .u64 u) ∧ w.cell? ⟨g, k * 6 + 5, none⟩ = some (.slice ko kn kc) := by
  intro k
  by_cases hk : k < l.length
  ·obtain ⟨kd, x, y, z, u, kv, hR, c0, c1, c2, c3, c4, c5⟩ := h.at_ k hk
   rw [Nat.zero_add] at c0 c1 c2 c3 c4 c5
   obtain ⟨ko, kn, kc, rfl⟩ := hR.slice
   exact ⟨_, fun _ => ⟨hR, _, _, _, _, _, _, _, _, rfl, c0, c1, c2, c3, c4, c5⟩⟩
  ·exact ⟨undef, fun h => absurd h hk⟩
 exact ⟨fun k => Classical.choose (this k), fun k hk => Classical.choose_spec (this k) hk⟩
end Go.Proofs.YtochckefnjobhaaGreatDoor
namespace Go.Proofs.YtochckefnjobhaaGreatDoor
open Go Go.RowKit Go.Shelf Go.Lib
open X3 (RX Pl)
open X4 (stX)
attribute [local go_sem] Oper.semAt_some
set_option linter.unusedVariables false
set_option linter.unusedSimpArgs false
structure CatF (wS W : World) (K2 : Nat) (O O' : Nat → Prop) : Prop where
 os : W.os = wS.os
 tape : W.tape = wS.tape
 output : W.output = wS.output
 size : wS.heap.size ≤ W.heap.size
 same : ∀ g, g < wS.heap.size → ¬ O g → g ≠ K2 → W.heap[g]? = wS.heap[g]?
 own : ∀ g, O' g → O g ∨ wS.heap.size ≤ g
theorem CatF.start (w : World) (K2 : Nat) (O : Nat → Prop) : CatF w w K2 O O := ⟨rfl, rfl, rfl, Nat.le_refl _, fun _ _ _ _ => rfl, fun g h => .inl h⟩
theorem CatF.step {wS W W' : World} {K2 : Nat} {O O' O2 : Nat → Prop} (h : CatF wS W K2 O O') (k : LF W W' O' O2) : CatF wS W' K2 O O2 :=
 ⟨k.os.trans h.os, k.tape.trans h.tape, k.output.trans h.output, Nat.le_trans h.size k.size, fun g hg hO hne => (k.same g (Nat.lt_of_lt_of_le hg h.size) (fun ho => by rcases h.own g ho with h1 | h1; exact hO h1; omega)).trans (h.same g hg hO hne),
  fun g hg => by
   rcases k.own g hg with h1 | h1
   ·exact h.own g h1
   ·exact .inr (Nat.le_trans h.size h1)⟩
theorem CatF.set {wS W : World} {K2 : Nat} {O O' : Nat → Prop} (h : CatF wS W K2 O O') (v : Value) : CatF wS (W.setCell ⟨K2, 0, none⟩ v) K2 O O' :=
 ⟨h.os, h.tape, h.output, by simpa using h.size, fun g hg hO hne => (Below.heap_setCell _ _ _ _ hne).trans (h.same g hg hO hne), h.own⟩
theorem CatF.grown {wS W W' : World} {K2 : Nat} {O O' : Nat → Prop} {row : Option Nat} (h : CatF wS W K2 O O') (hg : W.grownBy W' row) (hr : ∀ r, row = some r → wS.heap.size ≤ r) : CatF wS W' K2 O O' :=
 ⟨hg.os.trans h.os, hg.tape.trans h.tape, hg.output.trans h.output, Nat.le_trans h.size hg.size, fun g hgl hO hne => (hg.block g (Nat.lt_of_lt_of_le hgl h.size) (fun e => by have := hr g e.symm; omega)).trans (h.same g hgl hO hne), h.own⟩
def CatI (T : Nat → Nat) (B m b K0 K2 : Nat) (l : List RX) (P : List Pl) (wS : World) (O : Nat → Prop) (pre : List (Fin l.length)) (W : World) : Prop :=
 ∃ pv' AS', W.heap[K0]? = some (.cells #[.pointer (some ⟨m, 0, none⟩)] 127 (0, 0)) ∧ W.heap[K2]? = some (.cells #[.int .i64 (((stX l b P pre).1 : Nat) : Int)] 3 (0, 0)) ∧ MRep T B m W pv' AS' (stX l b P pre).2 ∧ CatF wS W K2 O (Own m pv' AS')
theorem catI_own (T : Nat → Nat) (B m b K0 K2 : Nat) (l : List RX) (P : List Pl) (wS : World) (O : Nat → Prop) : OwnFrom wS.heap.size (CatI T B m b K0 K2 l P wS O) := by
 rintro pre W W' row ⟨pv', AS', h1, h2, h3, h4⟩ hg hr
 have kept : ∀ (g : Nat) (cs : Array Value) (t : TypeId) (fz : Nat × Nat), W.heap[g]? = some (Obj.cells cs t fz) → W'.heap[g]? = W.heap[g]? := fun g cs t fz h => hg.block g (Array.getElem?_eq_some_iff.1 h).1 (fun e => by
  obtain ⟨_, o, ho, hc⟩ := hr g e.symm
  rw [h] at ho; obtain rfl := Option.some.inj ho; cases hc)
 exact ⟨pv', AS', (kept _ _ _ _ h1).trans h1, (kept _ _ _ _ h2).trans h2, h3.cellsKept kept, h4.grown hg fun r e => (hr r e).1⟩
theorem calls_round {l n : Nat} {P : Program} {f : FuncId} {args : Array Value} {w : World} {R : Ending → World → Prop} (h : Calls P f args w R) : CallsIn (Fence.wide.inRound l) n P f args w R :=
 (callsIn_wide (n := n)).2 h
set_option maxRecDepth 100000 in
set_option maxHeartbeats 4000000 in
theorem lay_cat (T : Nat → Nat) (S : Nat → Prop) (B m b : Nat) (hS : ∀ g, S g → g < B) (w : World) (pv : Value) (AS : List Value) (P : List Pl) (l : List RX) (g cap : Nat) (hl : RepLS S w l g 0) (hSg : S g) (hgw : g < w.heap.size) (hcap : l.length ≤ cap) (hM : MRep T B m w pv AS P)
  (hb : b < P.length) (hBd : X3.Bd P P.length) (hP : P.length + (1 + X3.sizeL l) * (1 + X3.sizeL l) * (1 + X3.sizeL l) ≤ 100000000000) (hmu : X3.muL P + 4 * ((1 + X3.sizeL l) * (1 + X3.sizeL l) * (1 + X3.sizeL l)) ≤ 1000000000000) (hBw : B ≤ w.heap.size) (hN : l.length ≤ 1000000)
  (hT : ∀ k, P.length ≤ k → k < (X3.layCat l b P).2.length → T k = 0)
  (ih : ∀ (T : Nat → Nat) (k : Nat) (hk : k < l.length) (w : World) (v : Value) (b : Nat) (pv : Value) (AS : List Value) (P : List Pl), RepS S w l[k] v → MRep T B m w pv AS P → b < P.length → X3.Bd P P.length → P.length + l[k].size * l[k].size * l[k].size ≤ 100000000000 → X3.muL P + 4 * (l[k].size * l[k].size * l[k].size) ≤ 1000000000000 → B ≤ w.heap.size →
   (∀ j, P.length ≤ j → j < (X3.layX l[k] b P).2.length → T j = 0) → Calls Tryz.prog 95 #[.pointer (some ⟨m, 0, none⟩), v, .int .i64 (b : Int)] w (LayP T B m w pv AS (X3.layX l[k] b P))) :
  Calls Tryz.prog 95 #[.pointer (some ⟨m, 0, none⟩), nodeV 2 0 0 0 0 (.slice (some ⟨g, 0, none⟩) l.length cap), .int .i64 (b : Int)] w (LayP T B m w pv AS (X3.layCat l b P)) := by
 obtain ⟨w0, e0, hB⟩ := boxes3 m b 2 0 0 0 0 (.slice (some ⟨g, 0, none⟩) l.length cap) w
 have hs := hB.sz
 obtain ⟨p0, p1, p2, p3, p4, p5⟩ := cells6 hB.h1
 have q := cell1 hB.h2
 have q0 := cell1 hB.h0
 obtain ⟨wS, eS⟩ : ∃ wS, w0.alloc (.cells #[.slice (some ⟨g, 0, none⟩) l.length cap] 44) = wS := ⟨_, rfl⟩
 have hbS : Below w0.heap.size w0 wS := by rw [← eS]; exact (Below.refl _ _).alloc (Nat.le_refl _) _
 have hsS : wS.heap.size = w0.heap.size + 1 := by rw [← eS]; simp
 have hnS : wS.heap[w0.heap.size]? = some (.cells #[.slice (some ⟨g, 0, none⟩) l.length cap] 44 (0, 0)) := by rw [← eS]; exact new_block _ _
 have hbw : Below w.heap.size w wS := hB.bl.trans (hbS.mono hB.bl.size)
 have hk0 : wS.heap[w.heap.size]? = some (.cells #[.pointer (some ⟨m, 0, none⟩)] 127 (0, 0)) := (hbS.block _ (by omega)).trans hB.h0
 have hk2 : wS.heap[w.heap.size + 1 + 1]? = some (.cells #[.int .i64 (b : Int)] 3 (0, 0)) := (hbS.block _ (by omega)).trans hB.h2
 have hgS : wS.heap[g]? = w.heap[g]? := hbw.block g hgw
 have hlS : RepLS S wS l g 0 := hl.kept (keepS_below hbw) hSg hgw
 obtain ⟨K, hK⟩ := kids_fun hlS
 have HOg : ∀ g', Own m pv AS g' → B ≤ g' ∧ g' < w.heap.size := fun g' h => hM.own_ge h
 have HKS : ∀ W : World, CatF wS W (w.heap.size + 1 + 1) (Own m pv AS) (fun _ => False) → KeepS S wS W := fun W h => ⟨h.size, fun g' hg' hgl => h.same g' hgl (fun ho => by have := (HOg g' ho).1; have := hS g' hg'; omega) (by have := hS g' hg'; omega)⟩
 have HT := hid hT
 have hM' : MRep (fun k => if k < P.length then T k else 0) B m wS pv AS P := (hM.below hbw).turn (fun k hk => by simp [hk])
 have HM := hid hM
 have HIH := hid ih
 have HK := hid hK
 have HB := hid hB
 have HBS := hid hbw
 have HSND := hid (X4.st_sound l b P hBd hb)
 have HKSS := hid HKS
 have HOG := hid HOg
 have hgB := hS g hSg
 have SEQ := hid (back_seq Fence.wide 4 trivial rfl (by decide) w0.heap.size g l.length cap K wS hnS (by omega) hN hcap (fun k hk => by obtain ⟨-, kd, x, y, z, u, ko, kn, kc, h, g0, g1, g2, g3, g4, g5⟩ := hK k hk; exact ⟨_, _, _, _, _, _, h, g0, g1, g2, g3, g4, g5⟩))
 have HI0 : Hid (CatI (fun k => if k < P.length then T k else 0) B m b w.heap.size (w.heap.size + 1 + 1) l P wS (Own m pv AS) [] wS) := hid ⟨pv, AS, hk0, hk2, hM', CatF.start _ _ _⟩
 clear hM hB ih hK hT hM' hl hlS hbw hbS hnS hk0 hk2 hgS hBd HKS HOg
 have lt1 : w0.heap.size < wS.heap.size := by omega
 have lt2 : g < wS.heap.size := by omega
 have lt3 : w.heap.size + 1 + 1 < wS.heap.size := by omega
 have lt4 : w.heap.size + 1 + 1 < w0.heap.size := by omega
 have HSZ := hid (And.intro hs hsS)
 clear hs hsS
 refine (callsIn_wide (n := 5)).1 ?_
 refine callsIn_of_wp_marks Tryz.func95 rfl trivial ?_ rfl
 simp only [Tryz.ntmps95, List.size_toArray, List.length_cons, List.length_nil, Nat.reduceAdd, Nat.reduceSub, Array.replicate_succ, Array.replicate_zero, List.push_toArray, List.append_toArray, List.nil_append, List.cons_append]
 gi_wp2_with fail
 refine ⟨trivial, (back_in Fence.wide 4 trivial rfl _ _ _ _).mono ?_⟩
 rintro e w' ⟨rfl, rfl⟩
 rw [eS]
 clear eS e0 p0 p1 p2 p3 p4 p5 q q0
 gi_wp2_with fail
 refine wpIn_rangeFunc_ownH rfl (by decide) (gf := 114) (lb := #[.pointer (some ⟨w0.heap.size, 0, none⟩)]) rfl trivial (enters_of Tryz.func114 (by kernel_rfl) rfl) SEQ.out
  (fun h k => ⟨k.1.trans h.1, k.2.trans h.2⟩)
  (fun W l' o o' hl' ho hc hw => ⟨World.putObj_heap_other (by omega), World.putObj_heap_other (by omega)⟩)
  (Below.refl _ _) (fun _ => rfl)
  (CatI (fun k => if k < P.length then T k else 0) B m b w.heap.size (w.heap.size + 1 + 1) l P wS (Own m pv AS)) (fun _ _ _ => False) (catI_own _ _ _ _ _ _ _ _ _ _) (fun _ _ _ _ _ hs _ _ => hs) HI0.out
  (fun x a' W => ∃ (Bx : Nat) (cs : Array Value), K x.val = .agg cs ∧ W.heap[Bx]? = some (.cells cs 46 (0, 0)) ∧ a' = { tmps := #[.pointer (some ⟨m, 0, none⟩), nodeV 2 0 0 0 0 (.slice (some ⟨g, 0, none⟩) l.length cap), .int .i64 (b : Int), .pointer (some ⟨w.heap.size, 0, none⟩), .pointer (some ⟨w.heap.size + 1, 0, none⟩), .pointer (some ⟨w.heap.size + 1 + 1, 0, none⟩), .int .i64 0, undef, .pointer (some ⟨Bx, 0, none⟩), undef, undef, undef, undef, undef, undef, .pointer (some ⟨w.heap.size + 1, 0, none⟩), .int .i64 2, .bool false, .bool false, undef, .bool false, .bool false, undef, undef, undef, undef, undef, undef, undef, undef, undef, .bool true, .bool true, .pointer (some ⟨w.heap.size + 1, 5, none⟩), .slice (some ⟨g, 0, none⟩) l.length cap, .func (.func 114) #[] #[.pointer (some ⟨w0.heap.size, 0, none⟩)], .int .i64 (x.val : Int), K x.val, undef, undef, undef, undef, undef, undef, undef, undef, undef, undef, undef, undef, undef, undef, undef, undef, undef, undef, undef, undef, undef, undef, undef, undef, undef, undef, undef, undef, undef, undef, undef, undef, undef, undef, undef, undef, undef, undef, undef, undef, undef, undef, undef, undef, undef, undef, undef, undef, undef, undef, undef, undef, undef, undef, undef, undef, undef, undef, undef, undef, undef, undef, undef, undef, undef, undef, undef, undef, undef, undef, undef, undef, undef, undef, undef, undef, undef, undef, undef, undef, undef, undef, undef, undef, undef, undef, undef, undef], defers := [] })
  (fun x a' s A C row ⟨Bx, cs, hc, hb, e⟩ hg hr => ⟨Bx, cs, hc, (hg.block Bx (Array.getElem?_eq_some_iff.1 hb).1 (fun e => by
   obtain ⟨_, o, ho, hc⟩ := hr Bx e.symm
   rw [hb] at ho; obtain rfl := Option.some.inj ho; cases hc)).trans hb, e⟩) ?assign ?body ?done ?stop
 case assign =>
  intro l' pre x W KK hi hK
  obtain ⟨hRx, kd, kx, ky, kz, ku, ko, kn, kc, hKx, -⟩ := HK.out x.val x.isLt
  have HKx := hid hKx
  clear hKx
  have HI := hid hi
  have HKK := hid hK
  clear hi hK hRx
  rw [HKx.out]
  gi_wp2
  have hz : wS.heap.size ≤ W.heap.size := by obtain ⟨_, _, _, _, _, h⟩ := HI.out; exact h.size
  exact HKK.out _ _ ((KeepsOthers.alloc _ _).from _) ⟨Below.heap_alloc _ _ _ (by omega), Below.heap_alloc _ _ _ (by omega)⟩ ((catI_own _ _ _ _ _ _ _ _ _ _).alloc _ HI.out) ⟨W.heap.size, _, HKx.out, new_block _ _, by rw [HKx.out]⟩
 case body =>
  rintro l' pre x a' W hl' ⟨r, hr⟩ ⟨pv', AS', i1, i2, i3, i4⟩ ⟨Bx, cs, hKc, hbx, rfl⟩ hlt
  obtain ⟨hRx, kd, kx, ky, kz, ku, ko, kn, kc, hKx, -⟩ := HK.out x.val x.isLt
  rw [hKx] at hKc
  obtain rfl : #[.int .i64 kd, .int .u64 kx, .int .u64 ky, .int .u64 kz, .int .u64 ku, .slice ko kn kc] = cs := by injection hKc
  obtain ⟨s1, s2, s3, s4, s5⟩ := HSND.out pre
  have hkid := X4.kid_le l x
  have hcb := X4.cube (X3.sizeL l) l[x].size hkid
  have hpl : pre.length * X3.sizeL l ≤ X3.sizeL l * X3.sizeL l := Nat.mul_le_mul (by have := length_le_sizeL l; omega) (Nat.le_refl _)
  have hszW := i4.size
  have KI := hid (HIH.out (fun k => if k < P.length then T k else 0) x.val x.isLt W (K x.val) (stX l b P pre).1 pv' AS' (stX l b P pre).2 (hRx.kept (HKSS.out W ⟨i4.os, i4.tape, i4.output, i4.size, i4.same, fun _ h => h.elim⟩)) i3 s2 s1
   (by have e : l[x.val].size = l[x].size := rfl; rw [e]; omega) (by have e : l[x.val].size = l[x].size := rfl; rw [e]; omega) (by have := (Array.getElem?_eq_some_iff.1 i1).1; omega) (fun j hj _ => by rw [if_neg (by omega)]))
  rw [hKx] at KI
  have hsn := X4.st_snoc l b P pre x
  have HSN := hid hsn
  have HX := hid (And.intro i3 i4)
  obtain ⟨c0, c1, c2, c3, c4, c5⟩ := cells6 hbx
  have d0 := cell1 i1
  have d2 := cell1 i2
  have HI1 := hid (And.intro i1 i2)
  clear hsn hKx hKc hRx i1 i2 i3 i4 s1 s2 s3 s4 s5 hkid hcb hpl hr
  gi_wp2_with fail
  refine ⟨trivial, (calls_round KI.out).mono ?_⟩
  rintro e w2 ⟨pv2, AS2, rfl, hM2, hF2⟩
  have hnO : ∀ k, k < wS.heap.size → ¬ Own m pv AS k → ¬ Own m pv' AS' k := fun k hk hn ho => by
   rcases HX.out.2.own k ho with h1 | h1
   ·exact hn h1
   ·omega
  have hnK : ∀ k, w.heap.size ≤ k → ¬ Own m pv AS k := fun k hk ho => by have := (HOG.out k ho).2; omega
  have j0 := (hF2.same w.heap.size (by omega) (hnO _ (by omega) (hnK _ (by omega)))).trans HI1.out.1
  have j2 := (hF2.same (w.heap.size + 1 + 1) (by omega) (hnO _ (by omega) (hnK _ (by omega)))).trans HI1.out.2
  have g2 := cell1 j2
  have f2 := Lib.frozen_of_heap j2 0
  have HM2 := hid hM2
  have HF2 := hid hF2
  have HJ := hid (And.intro j0 j2)
  clear c0 c1 c2 c3 c4 c5 d0 d2 hM2 hF2 j0 j2 KI hbx
  gi_wp2_with fail
  have hC := HX.out.2.step HF2.out
  have hO2 : ¬ Own m pv2 AS2 (w.heap.size + 1 + 1) := fun ho => by
   rcases hC.own _ ho with h1 | h1
   ·exact hnK _ (by omega) h1
   ·omega
  have hgO : ¬ Own m pv AS g := fun ho => by have := (HOG.out g ho).1; omega
  have hz2 := HF2.out.size
  refine ⟨⟨by simpa using hz2, fun k o hk ho hc => ?_⟩, ⟨?_, ?_⟩, pv2, AS2, ?_, ?_, ?_, hC.set _⟩
  ·refine (Below.heap_setCell _ _ _ _ (by show k ≠ w.heap.size + 1 + 1; omega)).trans ((HF2.out.same k (Array.getElem?_eq_some_iff.1 ho).1 (fun hO => ?_)).trans ho)
   obtain ⟨_, _, _, h⟩ := HX.out.1.own_cells hO
   rw [h] at ho; obtain rfl := Option.some.inj ho; cases hc
  ·exact (Below.heap_setCell _ _ _ _ (by show w0.heap.size ≠ w.heap.size + 1 + 1; omega)).trans (HF2.out.same _ (by omega) (hnO _ (by omega) (hnK _ (by omega))))
  ·exact (Below.heap_setCell _ _ _ _ (by show g ≠ w.heap.size + 1 + 1; omega)).trans (HF2.out.same _ (by omega) (hnO _ (by omega) hgO))
  ·exact (Below.heap_setCell _ _ _ _ (by show w.heap.size ≠ w.heap.size + 1 + 1; omega)).trans HJ.out.1
  ·rw [HSN.out]; exact heap_set0 _ HJ.out.2
  ·rw [HSN.out]; exact HM2.out.ownKept fun k hk => Below.heap_setCell _ _ _ _ (fun e => hO2 (by have e' : k = w.heap.size + 1 + 1 := e; rw [← e']; exact hk))
 case done =>
  rintro D ys W hD hys ⟨pv', AS', i1, i2, i3, i4⟩ hK
  have hst := X4.st_all l b P l.length ys (Nat.le_refl _) (by rw [Nat.sub_self]; exact hys)
  rw [Nat.sub_self, List.drop_zero] at hst
  rw [hst] at i2 i3
  have c2 := cell1 i2
  have HX := hid (And.intro i3 i4)
  clear i1 i2 i3 i4 hst hys
  gi_wp2_with fail
  refine ⟨by simp, .inl ⟨_, _, rfl, run_takeDeferred hK, ?_⟩⟩
  have hne : ∀ (g : Nat) (cs : Array Value) (t : TypeId) (fz : Nat × Nat), W.heap[g]? = some (Obj.cells cs t fz) → g ≠ D := fun g cs t fz h e => by
   rw [e, hK] at h; cases h
  refine ⟨_, results_tmp rfl _ _ _, pv', AS', rfl, ?_, ?_⟩
  ·refine (HX.out.1.cellsKept fun g cs t fz h => World.putObj_heap_other (hne g cs t fz h)).turn fun k hk => ?_
   by_cases c : k < P.length
   ·simp [c]
   ·simp only [if_neg c]; exact (HT.out k (by omega) hk).symm
  ·have h4 := HX.out.2
   refine ⟨h4.os.trans HBS.out.os, h4.tape.trans HBS.out.tape, h4.output.trans HBS.out.output, by have := h4.size; have := HBS.out.size; simp; omega, fun k hk hO => ?_, fun k hk => ?_⟩
   ·exact (World.putObj_heap_other (by omega)).trans ((h4.same k (by omega) hO (by omega)).trans (HBS.out.block k hk))
   ·rcases h4.own k hk with h1 | h1
    ·exact .inl h1
    ·exact .inr (by omega)
 case stop =>
  rintro D c pre W _ _ h _
  exact h.elim
end Go.Proofs.YtochckefnjobhaaGreatDoor
