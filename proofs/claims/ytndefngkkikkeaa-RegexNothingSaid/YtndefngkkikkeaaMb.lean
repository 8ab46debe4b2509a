/- regex's matcher: add. -/
import Derived.Test.YtndefngkkikkeaaMa
namespace Go.Proofs.Ytndefngkkikkeaa
open Go Go.RowKit Go.Lib
open X3 (RX Pl)
set_option linter.unusedVariables false
set_option linter.unusedSimpArgs false

theorem heap_set0 {w : World} {k : Nat} {cs : Array Value} {t : TypeId} (v : Value) (h : w.heap[k]? = some (.cells cs t (0, 0))) : (w.setCell ⟨k, 0, none⟩ v).heap[k]? = some (.cells (cs.setIfInBounds 0 v) t (0, 0)) := heap_setCell_same w k 0 cs t v h

theorem MRep.pushed {B m : Nat} {w1 w2 : World} {pv pv' : Value} {AS : List Value} {P : List Pl} {pl : Pl} (h : MRep B m w1 pv AS P) (hpl : pl.also = [])
    (hown : w2.ownsRow B 60 8 pv' (P.length + 1) (cellsP P AS ++ plc pl (.slice none 0 0))) (hg : w1.grownBy w2 pv.ownBlock) (hat : pv'.ownBlock = pv.ownBlock ∨ pv'.ownBlock = some w1.heap.size) :
    MRep B m (w2.setCell ⟨m, 0, none⟩ pv') pv' (AS ++ [.slice none 0 0]) (P ++ [pl]) := by
  have hml : m < w1.heap.size := (Array.getElem?_eq_some_iff.1 h.box).1
  have hmb : w2.heap[m]? = some (.cells #[pv, .slice none 0 0, .int .i64 0] 63 (0, 0)) := (hg.block m hml (fun e => h.apm e.symm)).trans h.box
  have hmp : pv'.ownBlock ≠ some m := by
    rcases hat with e | e
    · rw [e]; exact h.apm
    · rw [e]; intro e2; have := Option.some.inj e2; omega
  have old : ∀ (k : Nat) (av : Value), AS[k]? = some av → ∀ g, av.ownBlock = some g → (w2.setCell ⟨m, 0, none⟩ pv').heap[g]? = w1.heap[g]? ∧ g < w1.heap.size := by
    intro k av hk g hgo
    obtain ⟨pl0, hp0⟩ : ∃ pl0, P[k]? = some pl0 := by
      have : k < P.length := by rw [← h.lenA]; exact (List.getElem?_eq_some_iff.1 hk).1
      exact ⟨_, List.getElem?_eq_getElem this⟩
    have hl := ((h.also k pl0 av hp0 hk).lt g hgo).2
    have ha := h.ap1 k av g hk hgo
    exact ⟨(Below.heap_setCell _ _ _ _ ha.1).trans (hg.block g hl (fun e => ha.2 e.symm)), hl⟩
  have hAS : ∀ (k : Nat) (av : Value), (AS ++ [.slice none 0 0])[k]? = some av → ∀ g, av.ownBlock = some g → AS[k]? = some av := by
    intro k av hk g hgo
    by_cases hlt : k < AS.length
    · rwa [List.getElem?_append_left hlt] at hk
    · rw [List.getElem?_append_right (by omega)] at hk
      by_cases e : k - AS.length = 0
      · rw [e] at hk; simp at hk; subst hk; cases hgo
      · have : ([Value.slice none 0 0] : List Value)[k - AS.length]? = none := by rw [List.getElem?_eq_none_iff]; simp; omega
        rw [this] at hk; cases hk
  refine ⟨?_, h.mB, ?_, by simp [h.lenA], ?_, ?_, ?_, hmp⟩
  · rw [heap_set0 pv' hmb]; rfl
  · rw [cellsP_app P AS pl _ h.lenA]
    have : (P ++ [pl]).length = P.length + 1 := by simp
    rw [this]
    exact owns_kept hown (fun g hgo => Below.heap_setCell _ _ _ _ (fun e => hmp (by rw [hgo]; exact congrArg some e)))
  · intro k pl1 av hp hk
    by_cases hlt : k < AS.length
    · rw [List.getElem?_append_left hlt] at hk
      rw [List.getElem?_append_left (by rw [← h.lenA]; exact hlt)] at hp
      exact owns_kept (h.also k pl1 av hp hk) (fun g hgo => (old k av hk g hgo).1)
    · have hk' : k = AS.length := by
        have : k < (AS ++ [Value.slice none 0 0]).length := (List.getElem?_eq_some_iff.1 hk).1
        simp at this; omega
      subst hk'
      rw [List.getElem?_append_right (Nat.le_refl _), Nat.sub_self] at hk
      rw [h.lenA, List.getElem?_append_right (Nat.le_refl _), Nat.sub_self] at hp
      simp at hk hp
      subst hk hp
      rw [hpl]
      exact World.ownsRow_nil _ _ _ _
  · intro k av g hk hgo
    have hk2 := hAS k av hk g hgo
    refine ⟨(h.ap1 k av g hk2 hgo).1, ?_⟩
    rcases hat with e | e
    · rw [e]; exact (h.ap1 k av g hk2 hgo).2
    · rw [e]; intro e2; have := Option.some.inj e2; have := (old k av hk2 g hgo).2; omega
  · intro i j a b g hi hj ha hb
    exact h.ap2 i j a b g (hAS i a hi g ha) (hAS j b hj g hb) ha hb

set_option maxRecDepth 100000 in
set_option maxHeartbeats 4000000 in
theorem add_any (B m : Nat) (w : World) (pv : Value) (AS : List Value) (P : List Pl) (b : RX) (next : Nat) (h : MRep B m w pv AS P) (hP : P.length ≤ 1000000) (hBw : B ≤ w.heap.size) :
    Calls Try.prog 39 #[.pointer (some ⟨m, 0, none⟩), .agg (plc ⟨b, next, []⟩ (.slice none 0 0)).toArray] w fun e w' => ∃ pv', e = .returned (.int .i64 (P.length : Nat)) ∧ MRep B m w' pv' (AS ++ [.slice none 0 0]) (P ++ [⟨b, next, []⟩]) ∧ LF w w' (Own m pv AS) (Own m pv' (AS ++ [.slice none 0 0])) := by
  obtain ⟨k, x, y, z, u, hbc, -⟩ := bcs_shape b
  have hpc : plc ⟨b, next, []⟩ (.slice none 0 0) = [.int .i64 k, .int .u64 x, .int .u64 y, .int .u64 z, .int .u64 u, noKids, .int .i64 (next : Int), .slice none 0 0] := by simp [plc, hbc]
  have HPC := hid hpc
  rw [hpc]
  show Calls Try.prog 39 #[.pointer (some ⟨m, 0, none⟩), .agg #[.int .i64 k, .int .u64 x, .int .u64 y, .int .u64 z, .int .u64 u, noKids, .int .i64 (next : Int), .slice none 0 0]] w _
  clear hpc hbc
  have hml : m < w.heap.size := (Array.getElem?_eq_some_iff.1 h.box).1
  obtain ⟨w0, e0⟩ : ∃ w0, w.alloc (.cells #[.int .i64 k, .int .u64 x, .int .u64 y, .int .u64 z, .int .u64 u, noKids, .int .i64 (next : Int), .slice none 0 0] 60) = w0 := ⟨_, rfl⟩
  have hb0 : Below w.heap.size w w0 := by rw [← e0]; exact (Below.refl _ _).alloc (Nat.le_refl _) _
  have hz0 : w0.heap[w.heap.size]? = some (.cells #[.int .i64 k, .int .u64 x, .int .u64 y, .int .u64 z, .int .u64 u, noKids, .int .i64 (next : Int), .slice none 0 0] 60 (0, 0)) := by rw [← e0]; exact new_block _ _
  have hs0 : w0.heap.size = w.heap.size + 1 := by rw [← e0]; simp
  obtain ⟨wd, hwd⟩ : ∃ wd, w0.drew = wd := ⟨_, rfl⟩
  have hbd : Below w.heap.size w wd := by rw [← hwd]; exact hb0.drew
  have hzd : wd.heap[w.heap.size]? = some (.cells #[.int .i64 k, .int .u64 x, .int .u64 y, .int .u64 z, .int .u64 u, noKids, .int .i64 (next : Int), .slice none 0 0] 60 (0, 0)) := by rw [← hwd]; exact hz0
  have hsd : wd.heap.size = w.heap.size + 1 := by rw [← hwd]; exact hs0
  have hM := h.below hbd
  have pcell : ∀ (w' : World), w'.heap[w.heap.size]? = some (.cells #[.int .i64 k, .int .u64 x, .int .u64 y, .int .u64 z, .int .u64 u, noKids, .int .i64 (next : Int), .slice none 0 0] 60 (0, 0)) → (w'.cell? ⟨w.heap.size, 0, none⟩ = some (.int .i64 k) ∧ w'.cell? ⟨w.heap.size, 1, none⟩ = some (.int .u64 x) ∧ w'.cell? ⟨w.heap.size, 2, none⟩ = some (.int .u64 y) ∧ w'.cell? ⟨w.heap.size, 3, none⟩ = some (.int .u64 z) ∧ w'.cell? ⟨w.heap.size, 4, none⟩ = some (.int .u64 u) ∧ w'.cell? ⟨w.heap.size, 5, none⟩ = some noKids ∧ w'.cell? ⟨w.heap.size, 6, none⟩ = some (.int .i64 (next : Int)) ∧ w'.cell? ⟨w.heap.size, 7, none⟩ = some (.slice none 0 0)) := by
    intro w' hh
    refine ⟨?_, ?_, ?_, ?_, ?_, ?_, ?_, ?_⟩ <;> (rw [Lib.cell_of_heap hh]; rfl)
  have PC := hid pcell
  clear pcell
  have cm : wd.cell? ⟨m, 0, none⟩ = some pv := by rw [Lib.cell_of_heap hM.box]; rfl
  have HM := hid hM
  have HH := hid h
  clear hM h
  go_enter Try.func39, Try.ntmps39
  go_upto_region 1 with fail
  refine region_T 10 (fun w' => w'.cell? ⟨m, 0, none⟩ = some pv ∧ (w'.cell? ⟨w.heap.size, 0, none⟩ = some (.int .i64 k) ∧ w'.cell? ⟨w.heap.size, 1, none⟩ = some (.int .u64 x) ∧ w'.cell? ⟨w.heap.size, 2, none⟩ = some (.int .u64 y) ∧ w'.cell? ⟨w.heap.size, 3, none⟩ = some (.int .u64 z) ∧ w'.cell? ⟨w.heap.size, 4, none⟩ = some (.int .u64 u) ∧ w'.cell? ⟨w.heap.size, 5, none⟩ = some noKids ∧ w'.cell? ⟨w.heap.size, 6, none⟩ = some (.int .i64 (next : Int)) ∧ w'.cell? ⟨w.heap.size, 7, none⟩ = some (.slice none 0 0))) (by kernel_rfl) (by rw [hwd]; exact ⟨cm, PC.out _ hzd⟩) (fun inv hHeld => ?_)
  rw [hwd] at hHeld ⊢
  clear hwd e0
  refine anyT_take (i := 0) (oi := { dst := some 5, op := Op.move (Operand.tmp 0), type := 57, pos := "match.go:70", after := #[], guard := none }) (v := ?_) rfl (by kernel_rfl) (by kernel_rfl) (by kernel_rfl) (by decide) (by decide) (by kernel_rfl) (by kernel_rfl) (fun _ _ _ h => h) (Or.inl ⟨by rfl, ?_⟩) hHeld inv (fun inv => ?_)
  rotate_left
  · intro w hSw
    try dsimp only at hSw
    go_simp
    try with_reducible rfl
  simp only [Act.put, List.setIfInBounds_toArray, List.set_cons_zero, List.set_cons_succ]
  refine anyT_take (i := 1) (oi := { dst := some 6, op := Op.move (Operand.tmp 0), type := 57, pos := "match.go:70", after := #[], guard := none }) (v := ?_) rfl (by kernel_rfl) (by kernel_rfl) (by kernel_rfl) (by decide) (by decide) (by kernel_rfl) (by kernel_rfl) (fun _ _ _ h => h) (Or.inl ⟨by rfl, ?_⟩) hHeld inv (fun inv => ?_)
  rotate_left
  · intro w hSw
    try dsimp only at hSw
    go_simp
    try with_reducible rfl
  simp only [Act.put, List.setIfInBounds_toArray, List.set_cons_zero, List.set_cons_succ]
  refine anyT_take (i := 2) (oi := { dst := some 7, op := Op.nilCheck (Operand.tmp 6), type := 0, pos := "match.go:70", after := #[{ on := 1, ground := Ground.data }], guard := none }) (v := ?_) rfl (by kernel_rfl) (by kernel_rfl) (by kernel_rfl) (by decide) (by decide) (by kernel_rfl) (by kernel_rfl) (fun _ _ _ h => h) (Or.inl ⟨by rfl, ?_⟩) hHeld inv (fun inv => ?_)
  rotate_left
  · intro w hSw
    try dsimp only at hSw
    go_simp
    try with_reducible rfl
  simp only [Act.put, List.setIfInBounds_toArray, List.set_cons_zero, List.set_cons_succ]
  refine anyT_take (i := 3) (oi := { dst := some 8, op := Op.fieldAddr 63 (Operand.tmp 7) 0, type := 0, pos := "match.go:70", after := #[{ on := 2, ground := Ground.data }], guard := none }) (v := ?_) rfl (by kernel_rfl) (by kernel_rfl) (by kernel_rfl) (by decide) (by decide) (by kernel_rfl) (by kernel_rfl) (fun _ _ _ h => h) (Or.inl ⟨by rfl, ?_⟩) hHeld inv (fun inv => ?_)
  rotate_left
  · intro w hSw
    try dsimp only at hSw
    go_simp
    try with_reducible rfl
  simp only [Act.put, List.setIfInBounds_toArray, List.set_cons_zero, List.set_cons_succ]
  refine anyT_take (i := 4) (oi := { dst := some 9, op := Op.load 61 (Operand.tmp 8), type := 61, pos := "match.go:70", after := #[{ on := 3, ground := Ground.data }], guard := none }) (v := ?_) rfl (by kernel_rfl) (by kernel_rfl) (by kernel_rfl) (by decide) (by decide) (by kernel_rfl) (by kernel_rfl) (fun _ _ _ h => h) (Or.inl ⟨by rfl, ?_⟩) hHeld inv (fun inv => ?_)
  rotate_left
  · intro w hSw
    try dsimp only at hSw
    go_simp
    try with_reducible rfl
  simp only [Act.put, List.setIfInBounds_toArray, List.set_cons_zero, List.set_cons_succ]
  refine anyT_take (i := 5) (oi := { dst := some 10, op := Op.load 60 (Operand.tmp 3), type := 60, pos := "match.go:70", after := #[], guard := none }) (v := ?_) rfl (by kernel_rfl) (by kernel_rfl) (by kernel_rfl) (by decide) (by decide) (by kernel_rfl) (by kernel_rfl) (fun _ _ _ h => h) (Or.inl ⟨by rfl, ?_⟩) hHeld inv (fun inv => ?_)
  rotate_left
  · intro w hSw
    try dsimp only at hSw
    go_simp
    try with_reducible rfl
  simp only [Act.put, List.setIfInBounds_toArray, List.set_cons_zero, List.set_cons_succ]
  obtain ⟨w3, e3⟩ : ∃ w3, wd.alloc (.cells #[.int .i64 k, .int .u64 x, .int .u64 y, .int .u64 z, .int .u64 u, noKids, .int .i64 (next : Int), .slice none 0 0] 60) = w3 := ⟨_, rfl⟩
  have hb3 : Below wd.heap.size wd w3 := by rw [← e3]; exact (Below.refl _ _).alloc (Nat.le_refl _) _
  have hn3 : w3.heap[wd.heap.size]? = some (.cells #[.int .i64 k, .int .u64 x, .int .u64 y, .int .u64 z, .int .u64 u, noKids, .int .i64 (next : Int), .slice none 0 0] 60 (0, 0)) := by rw [← e3]; exact new_block _ _
  have hs3 : w3.heap.size = w.heap.size + 1 + 1 := by rw [← e3]; simp [hsd]
  have hz3 := (hb3.block w.heap.size (by omega)).trans hzd
  have hM3 := HM.out.below hb3
  have cm3 : w3.cell? ⟨m, 0, none⟩ = some pv := by rw [Lib.cell_of_heap hM3.box]; rfl
  have HM3 := hid hM3
  clear hM3
  refine anyT_next (i := 6) (o := { dst := some 11, op := Op.buildSlice 61 1 #[(0, Operand.tmp 10)], type := 61, pos := "match.go:70", after := #[{ on := 5, ground := Ground.data }], guard := none }) (by kernel_rfl) rfl (by decide) inv (fun inv K' hK => ?_)
  go_simp
  refine hK.out _ _ ⟨cm3, PC.out _ hz3⟩ ?_
  clear hK K'
  try simp only [Act.put, List.setIfInBounds_toArray, List.set_cons_zero, List.set_cons_succ]
  obtain ⟨i0, hi, hq0, hq1, hq2⟩ := info_parts info60
  refine anyT_next (i := 7) (o := { dst := some 12, op := Op.call { callee := Callee.builtin Builtin.append, args := #[Operand.tmp 9, Operand.tmp 11], argTypes := #[61, 61] }, type := 61, pos := "match.go:70", after := #[{ on := 4, ground := Ground.data }, { on := 6, ground := Ground.data }], guard := none }) (by kernel_rfl) rfl (by decide) inv (fun inv K' hK => ?_)
  simp only [Region.wanted]
  rw [if_pos trivial]
  refine wp_append_own_at (.tmp 9) (.tmp 11) 61 rfl B 60 i0 (.agg zero8) 8 96 Try.underlying61 hi hq0 hq1 hq2 rfl (by decide) pv P.length _ rfl HM3.out.row ⟨w.heap.size + 1, 0, none⟩ 1 1 [.int .i64 k, .int .u64 x, .int .u64 y, .int .u64 z, .int .u64 u, noKids, .int .i64 (next : Int), .slice none 0 0] rfl rfl ?c1 ?c2 ?c3 ?c4 ?c5 ?_
  case c1 =>
    intro j v hj
    rw [hsd] at hn3
    have := Lib.cell_of_heap hn3 j
    rw [show (⟨w.heap.size + 1, 0, none⟩ : Addr).add j = ⟨w.heap.size + 1, j, none⟩ by simp [Addr.add]; omega]
    rw [this, ← hj]
    simp
  case c2 => intro v hv; simp at hv; rcases hv with rfl | rfl | rfl | rfl | rfl | rfl | rfl | rfl <;> rfl
  case c3 => unfold maxLen; omega
  case c4 => omega
  case c5 => omega
  intro v' w4 hown' hgrow hnil hat
  have hm4 := (hgrow.block m (by omega) (fun e => HM3.out.apm e.symm)).trans HM3.out.box
  have hz4 := (hgrow.block w.heap.size (by omega) (fun e => by have := (HH.out.row.lt _ e.symm).2; omega)).trans hz3
  have cm4 : w4.cell? ⟨m, 0, none⟩ = some pv := by rw [Lib.cell_of_heap hm4]; rfl
  have fm4 : w4.frozen? ⟨m, 0, none⟩ = false := Lib.frozen_of_heap hm4 0
  obtain ⟨vo, vc, rfl⟩ : ∃ vo vc, v' = .slice vo (P.length + 1) vc := by
    rcases hown'.2 with ⟨_, h0⟩ | ⟨g, cap, cur, rfl, _⟩
    · omega
    · exact ⟨_, _, rfl⟩
  have HF := hid (HM3.out.pushed (pl := ⟨b, next, []⟩) rfl (by rw [HPC.out]; exact hown') hgrow hat)
  have hml4 : m < w4.heap.size := (Array.getElem?_eq_some_iff.1 hm4).1
  have cm5 : (w4.setCell ⟨m, 0, none⟩ (.slice vo (P.length + 1) vc)).cell? ⟨m, 0, none⟩ = some (.slice vo (P.length + 1) vc) := by rw [Lib.cell_of_heap HF.out.box]; rfl
  obtain ⟨w5, e5⟩ : ∃ w5, w4.setCell ⟨m, 0, none⟩ (.slice vo (P.length + 1) vc) = w5 := ⟨_, rfl⟩
  have hl5 : LF w w5 (Own m pv AS) (Own m (.slice vo (P.length + 1) vc) (AS ++ [.slice none 0 0])) := by
    rw [← e5]
    refine ⟨hgrow.os.trans (hb3.os.trans hbd.os), hgrow.tape.trans (hb3.tape.trans hbd.tape), hgrow.output.trans (hb3.output.trans hbd.output), by have := hgrow.size; simp; omega, fun g hg hO => ?_, fun g hg => ?_⟩
    · exact (Below.heap_setCell w4 ⟨m, 0, none⟩ _ g (fun e => hO (.inl e))).trans ((hgrow.block g (by omega) (fun e => hO (.inr (.inl e.symm)))).trans ((hb3.block g (by omega)).trans (hbd.block g hg)))
    · rcases hg with h1 | h1 | ⟨a, ha, h1⟩
      · exact .inl (.inl h1)
      · rcases hat with e | e
        · exact .inl (.inr (.inl (by rw [← e]; exact h1)))
        · rw [e] at h1; obtain rfl := Option.some.inj h1; exact .inr (by omega)
      · simp at ha
        rcases ha with ha | rfl
        · exact .inl (.inr (.inr ⟨a, ha, h1⟩))
        · cases h1
  rw [e5] at cm5
  have HF5 : Hid (MRep B m w5 (.slice vo (P.length + 1) vc) (AS ++ [.slice none 0 0]) (P ++ [⟨b, next, []⟩])) := by rw [← e5]; exact HF.out
  clear hown' hgrow hnil hat HF
  refine hK.out _ _ ⟨cm4, PC.out _ hz4⟩ ?_
  clear hK K'
  try simp only [Act.put, List.setIfInBounds_toArray, List.set_cons_zero, List.set_cons_succ]
  refine anyT_take (i := 8) (oi := { dst := some 13, op := Op.nilCheck (Operand.tmp 5), type := 0, pos := "match.go:70", after := #[{ on := 0, ground := Ground.data }, { on := 0, ground := Ground.phase }, { on := 1, ground := Ground.phase }, { on := 2, ground := Ground.phase }, { on := 3, ground := Ground.phase }, { on := 4, ground := Ground.phase }, { on := 5, ground := Ground.phase }, { on := 6, ground := Ground.phase }, { on := 7, ground := Ground.phase }], guard := none }) (v := ?_) rfl (by kernel_rfl) (by kernel_rfl) (by kernel_rfl) (by decide) (by decide) (by kernel_rfl) (by kernel_rfl) (fun _ _ _ h => h) (Or.inl ⟨by rfl, ?_⟩) ⟨cm4, PC.out _ hz4⟩ inv (fun inv => ?_)
  rotate_left
  · intro w hSw
    try dsimp only at hSw
    go_simp
    try with_reducible rfl
  simp only [Act.put, List.setIfInBounds_toArray, List.set_cons_zero, List.set_cons_succ]
  refine anyT_take (i := 9) (oi := { dst := some 14, op := Op.fieldAddr 63 (Operand.tmp 13) 0, type := 0, pos := "match.go:70", after := #[{ on := 8, ground := Ground.data }, { on := 0, ground := Ground.phase }, { on := 1, ground := Ground.phase }, { on := 2, ground := Ground.phase }, { on := 3, ground := Ground.phase }, { on := 4, ground := Ground.phase }, { on := 5, ground := Ground.phase }, { on := 6, ground := Ground.phase }, { on := 7, ground := Ground.phase }], guard := none }) (v := ?_) rfl (by kernel_rfl) (by kernel_rfl) (by kernel_rfl) (by decide) (by decide) (by kernel_rfl) (by kernel_rfl) (fun _ _ _ h => h) (Or.inl ⟨by rfl, ?_⟩) ⟨cm4, PC.out _ hz4⟩ inv (fun inv => ?_)
  rotate_left
  · intro w hSw
    try dsimp only at hSw
    go_simp
    try with_reducible rfl
  simp only [Act.put, List.setIfInBounds_toArray, List.set_cons_zero, List.set_cons_succ]
  refine anyT_one (i := 10) (o := { dst := none, op := Op.store 61 (Operand.tmp 14) (Operand.tmp 12), type := 0, pos := "match.go:70", after := #[{ on := 9, ground := Ground.data }, { on := 7, ground := Ground.data }, { on := 7, ground := Ground.chain }, { on := 0, ground := Ground.phase }, { on := 1, ground := Ground.phase }, { on := 2, ground := Ground.phase }, { on := 3, ground := Ground.phase }, { on := 4, ground := Ground.phase }, { on := 5, ground := Ground.phase }, { on := 6, ground := Ground.phase }, { on := 7, ground := Ground.phase }], guard := none }) (by kernel_rfl) rfl (fun K' hK => ?_)
  go_simp
  refine hK.out _ _ (fun h => absurd h (by decide)) ?_
  clear hK K'
  try simp only [Act.put, List.setIfInBounds_toArray, List.set_cons_zero, List.set_cons_succ]
  refine anyT_done (by kernel_rfl) ?_ _
  clear cm4 fm4 hm4
  go_wp2_with fail
  go_ret
  exact ⟨_, rfl, HF5.out, hl5⟩

end Go.Proofs.Ytndefngkkikkeaa
