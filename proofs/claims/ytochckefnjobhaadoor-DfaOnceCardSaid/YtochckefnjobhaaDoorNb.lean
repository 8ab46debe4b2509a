/- nfa's machine: add. -/
import Derived.Test.YtochckefnjobhaaDoorNa
namespace Go.Proofs.YtochckefnjobhaaDoor
open Go Go.RowKit Go.Lib
open X3 (RX Pl)
set_option linter.unusedVariables false
set_option linter.unusedSimpArgs false

set_option maxRecDepth 100000 in
set_option maxHeartbeats 4000000 in
theorem add_any (T : Nat → Nat) (B m : Nat) (w : World) (pv : Value) (AS : List Value) (P : List Pl) (b : RX) (next : Nat) (t : Nat) (ht : t = T P.length) (h : MRep T B m w pv AS P) (hP : P.length ≤ 200000000000) (hBw : B ≤ w.heap.size) :
    Calls Tryd.prog 31 #[.pointer (some ⟨m, 0, none⟩), .agg (plc t ⟨b, next, []⟩ (.slice none 0 0)).toArray] w fun e w' => ∃ pv', e = .returned (.int .i64 (P.length : Nat)) ∧ MRep T B m w' pv' (AS ++ [.slice none 0 0]) (P ++ [⟨b, next, []⟩]) ∧ LF w w' (Own m pv AS) (Own m pv' (AS ++ [.slice none 0 0])) := by
  obtain ⟨k, x, y, z, u, hbc, -⟩ := bcs_shape b
  have hpc : plc t ⟨b, next, []⟩ (.slice none 0 0) = [.int .i64 k, .int .u64 x, .int .u64 y, .int .u64 z, .int .u64 u, noKids, .int .i64 (next : Int), .slice none 0 0, .int .u64 (t : Int)] := by simp [plc, hbc]
  have HPC := hid hpc
  have HTT := hid ht
  clear ht
  rw [hpc]
  show Calls Tryd.prog 31 #[.pointer (some ⟨m, 0, none⟩), .agg #[.int .i64 k, .int .u64 x, .int .u64 y, .int .u64 z, .int .u64 u, noKids, .int .i64 (next : Int), .slice none 0 0, .int .u64 (t : Int)]] w _
  clear hpc hbc
  have hml : m < w.heap.size := (Array.getElem?_eq_some_iff.1 h.box).1
  obtain ⟨w0, e0⟩ : ∃ w0, w.alloc (.cells #[.int .i64 k, .int .u64 x, .int .u64 y, .int .u64 z, .int .u64 u, noKids, .int .i64 (next : Int), .slice none 0 0, .int .u64 (t : Int)] 75) = w0 := ⟨_, rfl⟩
  have hb0 : Below w.heap.size w w0 := by rw [← e0]; exact (Below.refl _ _).alloc (Nat.le_refl _) _
  have hz0 : w0.heap[w.heap.size]? = some (.cells #[.int .i64 k, .int .u64 x, .int .u64 y, .int .u64 z, .int .u64 u, noKids, .int .i64 (next : Int), .slice none 0 0, .int .u64 (t : Int)] 75 (0, 0)) := by rw [← e0]; exact new_block _ _
  have hs0 : w0.heap.size = w.heap.size + 1 := by rw [← e0]; simp
  obtain ⟨wd, hwd⟩ : ∃ wd, w0.drew = wd := ⟨_, rfl⟩
  have hbd : Below w.heap.size w wd := by rw [← hwd]; exact hb0.drew
  have hzd : wd.heap[w.heap.size]? = some (.cells #[.int .i64 k, .int .u64 x, .int .u64 y, .int .u64 z, .int .u64 u, noKids, .int .i64 (next : Int), .slice none 0 0, .int .u64 (t : Int)] 75 (0, 0)) := by rw [← hwd]; exact hz0
  have hsd : wd.heap.size = w.heap.size + 1 := by rw [← hwd]; exact hs0
  have hM := h.below hbd
  have pcell : ∀ (w' : World), w'.heap[w.heap.size]? = some (.cells #[.int .i64 k, .int .u64 x, .int .u64 y, .int .u64 z, .int .u64 u, noKids, .int .i64 (next : Int), .slice none 0 0, .int .u64 (t : Int)] 75 (0, 0)) → (w'.cell? ⟨w.heap.size, 0, none⟩ = some (.int .i64 k) ∧ w'.cell? ⟨w.heap.size, 1, none⟩ = some (.int .u64 x) ∧ w'.cell? ⟨w.heap.size, 2, none⟩ = some (.int .u64 y) ∧ w'.cell? ⟨w.heap.size, 3, none⟩ = some (.int .u64 z) ∧ w'.cell? ⟨w.heap.size, 4, none⟩ = some (.int .u64 u) ∧ w'.cell? ⟨w.heap.size, 5, none⟩ = some noKids ∧ w'.cell? ⟨w.heap.size, 6, none⟩ = some (.int .i64 (next : Int)) ∧ w'.cell? ⟨w.heap.size, 7, none⟩ = some (.slice none 0 0) ∧ w'.cell? ⟨w.heap.size, 8, none⟩ = some (.int .u64 (t : Int))) := by
    intro w' hh
    refine ⟨?_, ?_, ?_, ?_, ?_, ?_, ?_, ?_, ?_⟩ <;> (rw [Lib.cell_of_heap hh]; rfl)
  have PC := hid pcell
  clear pcell
  have cm : wd.cell? ⟨m, 0, none⟩ = some pv := by rw [Lib.cell_of_heap hM.box]; rfl
  have HM := hid hM
  have HH := hid h
  clear hM h
  go_enter Tryd.func31, Tryd.ntmps31
  go_upto_region 1 with fail
  refine region_T 10 (fun w' => w'.cell? ⟨m, 0, none⟩ = some pv ∧ (w'.cell? ⟨w.heap.size, 0, none⟩ = some (.int .i64 k) ∧ w'.cell? ⟨w.heap.size, 1, none⟩ = some (.int .u64 x) ∧ w'.cell? ⟨w.heap.size, 2, none⟩ = some (.int .u64 y) ∧ w'.cell? ⟨w.heap.size, 3, none⟩ = some (.int .u64 z) ∧ w'.cell? ⟨w.heap.size, 4, none⟩ = some (.int .u64 u) ∧ w'.cell? ⟨w.heap.size, 5, none⟩ = some noKids ∧ w'.cell? ⟨w.heap.size, 6, none⟩ = some (.int .i64 (next : Int)) ∧ w'.cell? ⟨w.heap.size, 7, none⟩ = some (.slice none 0 0) ∧ w'.cell? ⟨w.heap.size, 8, none⟩ = some (.int .u64 (t : Int)))) (by kernel_rfl) (by rw [hwd]; exact ⟨cm, PC.out _ hzd⟩) (fun inv hHeld => ?_)
  rw [hwd] at hHeld ⊢
  clear hwd e0
  refine anyT_take (i := 0) (oi := { dst := some 5, op := Op.move (Operand.tmp 0), type := 39, pos := "nfa.go:108", after := #[], guard := none }) (v := ?_) rfl (by kernel_rfl) (by kernel_rfl) (by kernel_rfl) (by decide) (by decide) (by kernel_rfl) (by kernel_rfl) (fun _ _ _ h => h) (Or.inl ⟨by rfl, ?_⟩) hHeld inv (fun inv => ?_)
  rotate_left
  · intro w hSw
    try dsimp only at hSw
    go_simp
    try with_reducible rfl
  simp only [Act.put, List.setIfInBounds_toArray, List.set_cons_zero, List.set_cons_succ]
  refine anyT_take (i := 1) (oi := { dst := some 6, op := Op.move (Operand.tmp 0), type := 39, pos := "nfa.go:108", after := #[], guard := none }) (v := ?_) rfl (by kernel_rfl) (by kernel_rfl) (by kernel_rfl) (by decide) (by decide) (by kernel_rfl) (by kernel_rfl) (fun _ _ _ h => h) (Or.inl ⟨by rfl, ?_⟩) hHeld inv (fun inv => ?_)
  rotate_left
  · intro w hSw
    try dsimp only at hSw
    go_simp
    try with_reducible rfl
  simp only [Act.put, List.setIfInBounds_toArray, List.set_cons_zero, List.set_cons_succ]
  refine anyT_take (i := 2) (oi := { dst := some 7, op := Op.nilCheck (Operand.tmp 6), type := 0, pos := "nfa.go:108", after := #[{ on := 1, ground := Ground.data }], guard := none }) (v := ?_) rfl (by kernel_rfl) (by kernel_rfl) (by kernel_rfl) (by decide) (by decide) (by kernel_rfl) (by kernel_rfl) (fun _ _ _ h => h) (Or.inl ⟨by rfl, ?_⟩) hHeld inv (fun inv => ?_)
  rotate_left
  · intro w hSw
    try dsimp only at hSw
    go_simp
    try with_reducible rfl
  simp only [Act.put, List.setIfInBounds_toArray, List.set_cons_zero, List.set_cons_succ]
  refine anyT_take (i := 3) (oi := { dst := some 8, op := Op.fieldAddr 71 (Operand.tmp 7) 0, type := 0, pos := "nfa.go:108", after := #[{ on := 2, ground := Ground.data }], guard := none }) (v := ?_) rfl (by kernel_rfl) (by kernel_rfl) (by kernel_rfl) (by decide) (by decide) (by kernel_rfl) (by kernel_rfl) (fun _ _ _ h => h) (Or.inl ⟨by rfl, ?_⟩) hHeld inv (fun inv => ?_)
  rotate_left
  · intro w hSw
    try dsimp only at hSw
    go_simp
    try with_reducible rfl
  simp only [Act.put, List.setIfInBounds_toArray, List.set_cons_zero, List.set_cons_succ]
  refine anyT_take (i := 4) (oi := { dst := some 9, op := Op.load 69 (Operand.tmp 8), type := 69, pos := "nfa.go:108", after := #[{ on := 3, ground := Ground.data }], guard := none }) (v := ?_) rfl (by kernel_rfl) (by kernel_rfl) (by kernel_rfl) (by decide) (by decide) (by kernel_rfl) (by kernel_rfl) (fun _ _ _ h => h) (Or.inl ⟨by rfl, ?_⟩) hHeld inv (fun inv => ?_)
  rotate_left
  · intro w hSw
    try dsimp only at hSw
    go_simp
    try with_reducible rfl
  simp only [Act.put, List.setIfInBounds_toArray, List.set_cons_zero, List.set_cons_succ]
  refine anyT_take (i := 5) (oi := { dst := some 10, op := Op.load 75 (Operand.tmp 3), type := 75, pos := "nfa.go:108", after := #[], guard := none }) (v := ?_) rfl (by kernel_rfl) (by kernel_rfl) (by kernel_rfl) (by decide) (by decide) (by kernel_rfl) (by kernel_rfl) (fun _ _ _ h => h) (Or.inl ⟨by rfl, ?_⟩) hHeld inv (fun inv => ?_)
  rotate_left
  · intro w hSw
    try dsimp only at hSw
    go_simp
    try with_reducible rfl
  simp only [Act.put, List.setIfInBounds_toArray, List.set_cons_zero, List.set_cons_succ]
  obtain ⟨w3, e3⟩ : ∃ w3, wd.alloc (.cells #[.int .i64 k, .int .u64 x, .int .u64 y, .int .u64 z, .int .u64 u, noKids, .int .i64 (next : Int), .slice none 0 0, .int .u64 (t : Int)] 75) = w3 := ⟨_, rfl⟩
  have hb3 : Below wd.heap.size wd w3 := by rw [← e3]; exact (Below.refl _ _).alloc (Nat.le_refl _) _
  have hn3 : w3.heap[wd.heap.size]? = some (.cells #[.int .i64 k, .int .u64 x, .int .u64 y, .int .u64 z, .int .u64 u, noKids, .int .i64 (next : Int), .slice none 0 0, .int .u64 (t : Int)] 75 (0, 0)) := by rw [← e3]; exact new_block _ _
  have hs3 : w3.heap.size = w.heap.size + 1 + 1 := by rw [← e3]; simp [hsd]
  have hz3 := (hb3.block w.heap.size (by omega)).trans hzd
  have hM3 := HM.out.below hb3
  have cm3 : w3.cell? ⟨m, 0, none⟩ = some pv := by rw [Lib.cell_of_heap hM3.box]; rfl
  have HM3 := hid hM3
  clear hM3
  refine anyT_next (i := 6) (o := { dst := some 11, op := Op.buildSlice 69 1 #[(0, Operand.tmp 10)], type := 69, pos := "nfa.go:108", after := #[{ on := 5, ground := Ground.data }], guard := none }) (by kernel_rfl) rfl (by decide) inv (fun inv K' hK => ?_)
  go_simp
  refine hK.out _ _ ⟨cm3, PC.out _ hz3⟩ ?_
  clear hK K'
  try simp only [Act.put, List.setIfInBounds_toArray, List.set_cons_zero, List.set_cons_succ]
  obtain ⟨i0, hi, hq0, hq1, hq2⟩ := info_parts info64
  refine anyT_next (i := 7) (o := { dst := some 12, op := Op.call { callee := Callee.builtin Builtin.append, args := #[Operand.tmp 9, Operand.tmp 11], argTypes := #[69, 69] }, type := 69, pos := "nfa.go:108", after := #[{ on := 4, ground := Ground.data }, { on := 6, ground := Ground.data }], guard := none }) (by kernel_rfl) rfl (by decide) inv (fun inv K' hK => ?_)
  simp only [Region.wanted]
  rw [if_pos trivial]
  refine wp_append_own_at (.tmp 9) (.tmp 11) 69 rfl B 75 i0 (.agg zero9) 9 104 Tryd.underlying69 hi hq0 hq1 hq2 rfl (by decide) pv P.length _ rfl HM3.out.row ⟨w.heap.size + 1, 0, none⟩ 1 1 [.int .i64 k, .int .u64 x, .int .u64 y, .int .u64 z, .int .u64 u, noKids, .int .i64 (next : Int), .slice none 0 0, .int .u64 (t : Int)] rfl rfl ?c1 ?c2 ?c3 ?c4 ?c5 ?_
  case c1 =>
    intro j v hj
    rw [hsd] at hn3
    have := Lib.cell_of_heap hn3 j
    rw [show (⟨w.heap.size + 1, 0, none⟩ : Addr).add j = ⟨w.heap.size + 1, j, none⟩ by simp [Addr.add]; omega]
    rw [this, ← hj]
    simp
  case c2 => intro v hv; simp at hv; rcases hv with rfl | rfl | rfl | rfl | rfl | rfl | rfl | rfl | rfl <;> rfl
  case c3 => unfold maxLen; omega
  case c4 => omega
  case c5 => omega
  intro v' w4 hown' hgrow hnil hat
  have hm4 := (hgrow.block m (by omega) (fun e => HM3.out.apm e.symm)).trans HM3.out.box
  have hz4 := (hgrow.block w.heap.size (by omega) (fun e => by have := (HH.out.row.lt _ e.symm).2; omega)).trans hz3
  have cm4 : w4.cell? ⟨m, 0, none⟩ = some pv := by rw [Lib.cell_of_heap hm4]; rfl
  have fm4 : w4.frozen? ⟨m, 0, none⟩ = false := Lib.frozen_of_heap hm4 0
  obtain ⟨vo, vc, rfl⟩ : ∃ vo vc, v' = .slice vo (P.length + 1) vc := by
    rcases hown'.2 with ⟨_, h0⟩ | ⟨g, cap, cur, rfl, _⟩
    · omega
    · exact ⟨_, _, rfl⟩
  have HF := hid (HM3.out.pushed (pl := ⟨b, next, []⟩) rfl (by rw [← HTT.out, HPC.out]; exact hown') hgrow hat)
  have hml4 : m < w4.heap.size := (Array.getElem?_eq_some_iff.1 hm4).1
  have cm5 : (w4.setCell ⟨m, 0, none⟩ (.slice vo (P.length + 1) vc)).cell? ⟨m, 0, none⟩ = some (.slice vo (P.length + 1) vc) := by rw [Lib.cell_of_heap HF.out.box]; rfl
  obtain ⟨w5, e5⟩ : ∃ w5, w4.setCell ⟨m, 0, none⟩ (.slice vo (P.length + 1) vc) = w5 := ⟨_, rfl⟩
  have hl5 : LF w w5 (Own m pv AS) (Own m (.slice vo (P.length + 1) vc) (AS ++ [.slice none 0 0])) := by
    rw [← e5]
    refine ⟨hgrow.os.trans (hb3.os.trans hbd.os), hgrow.tape.trans (hb3.tape.trans hbd.tape), hgrow.output.trans (hb3.output.trans hbd.output), by have := hgrow.size; simp; omega, fun g hg hO => ?_, fun g hg => ?_⟩
    · exact (Below.heap_setCell w4 ⟨m, 0, none⟩ _ g (fun e => hO (.inl e))).trans ((hgrow.block g (by omega) (fun e => hO (.inr (.inl e.symm)))).trans ((hb3.block g (by omega)).trans (hbd.block g hg)))
    · rcases hg with h1 | h1 | ⟨a, ha, h1⟩
      · exact .inl (.inl h1)
      · rcases hat with e | e
        · exact .inl (.inr (.inl (by rw [← e]; exact h1)))
        · rw [e] at h1; obtain rfl := Option.some.inj h1; exact .inr (by omega)
      · simp at ha
        rcases ha with ha | rfl
        · exact .inl (.inr (.inr ⟨a, ha, h1⟩))
        · cases h1
  rw [e5] at cm5
  have HF5 : Hid (MRep T B m w5 (.slice vo (P.length + 1) vc) (AS ++ [.slice none 0 0]) (P ++ [⟨b, next, []⟩])) := by rw [← e5]; exact HF.out
  clear hown' hgrow hnil hat HF
  refine hK.out _ _ ⟨cm4, PC.out _ hz4⟩ ?_
  clear hK K'
  try simp only [Act.put, List.setIfInBounds_toArray, List.set_cons_zero, List.set_cons_succ]
  refine anyT_take (i := 8) (oi := { dst := some 13, op := Op.nilCheck (Operand.tmp 5), type := 0, pos := "nfa.go:108", after := #[{ on := 0, ground := Ground.data }, { on := 0, ground := Ground.phase }, { on := 1, ground := Ground.phase }, { on := 2, ground := Ground.phase }, { on := 3, ground := Ground.phase }, { on := 4, ground := Ground.phase }, { on := 5, ground := Ground.phase }, { on := 6, ground := Ground.phase }, { on := 7, ground := Ground.phase }], guard := none }) (v := ?_) rfl (by kernel_rfl) (by kernel_rfl) (by kernel_rfl) (by decide) (by decide) (by kernel_rfl) (by kernel_rfl) (fun _ _ _ h => h) (Or.inl ⟨by rfl, ?_⟩) ⟨cm4, PC.out _ hz4⟩ inv (fun inv => ?_)
  rotate_left
  · intro w hSw
    try dsimp only at hSw
    go_simp
    try with_reducible rfl
  simp only [Act.put, List.setIfInBounds_toArray, List.set_cons_zero, List.set_cons_succ]
  refine anyT_take (i := 9) (oi := { dst := some 14, op := Op.fieldAddr 71 (Operand.tmp 13) 0, type := 0, pos := "nfa.go:108", after := #[{ on := 8, ground := Ground.data }, { on := 0, ground := Ground.phase }, { on := 1, ground := Ground.phase }, { on := 2, ground := Ground.phase }, { on := 3, ground := Ground.phase }, { on := 4, ground := Ground.phase }, { on := 5, ground := Ground.phase }, { on := 6, ground := Ground.phase }, { on := 7, ground := Ground.phase }], guard := none }) (v := ?_) rfl (by kernel_rfl) (by kernel_rfl) (by kernel_rfl) (by decide) (by decide) (by kernel_rfl) (by kernel_rfl) (fun _ _ _ h => h) (Or.inl ⟨by rfl, ?_⟩) ⟨cm4, PC.out _ hz4⟩ inv (fun inv => ?_)
  rotate_left
  · intro w hSw
    try dsimp only at hSw
    go_simp
    try with_reducible rfl
  simp only [Act.put, List.setIfInBounds_toArray, List.set_cons_zero, List.set_cons_succ]
  refine anyT_one (i := 10) (o := { dst := none, op := Op.store 69 (Operand.tmp 14) (Operand.tmp 12), type := 0, pos := "nfa.go:108", after := #[{ on := 9, ground := Ground.data }, { on := 7, ground := Ground.data }, { on := 7, ground := Ground.chain }, { on := 0, ground := Ground.phase }, { on := 1, ground := Ground.phase }, { on := 2, ground := Ground.phase }, { on := 3, ground := Ground.phase }, { on := 4, ground := Ground.phase }, { on := 5, ground := Ground.phase }, { on := 6, ground := Ground.phase }, { on := 7, ground := Ground.phase }], guard := none }) (by kernel_rfl) rfl (fun K' hK => ?_)
  go_simp
  refine hK.out _ _ (fun h => absurd h (by decide)) ?_
  clear hK K'
  try simp only [Act.put, List.setIfInBounds_toArray, List.set_cons_zero, List.set_cons_succ]
  refine anyT_done (by kernel_rfl) ?_ _
  clear cm4 fm4 hm4
  go_wp2_with fail
  go_ret
  exact ⟨_, rfl, HF5.out, hl5⟩

end Go.Proofs.YtochckefnjobhaaDoor
