/- An automaton that is laid row by row. -/
import Derived.Test.YtochckefnjobhaaDoorKx
namespace Go.Proofs.YtochckefnjobhaaDoor
open Go Go.RowKit Go.Lib
open X5 (Aut)
set_option linter.unusedVariables false
set_option linter.unusedSimpArgs false

/-- What lies while it is laid. -/
def GO (B lb : Nat) (cv : Array Value) (W : World) (rv : Value) (R : List Int) (nd : Value) (CV : List Value) (NX : List (List Int)) (td : Value) (TG : List Nat) (w : World) : Prop :=
  Foot B W w [blkI lb (.cells (cv ++ #[nd, td]) 30 (0, 0)), noneI, rowI B 3 rv (zs R), nxI B nd CV NX, rowI B 43 td (u64s TG)]
section
variable {B lb : Nat} {cv : Array Value} {W w w' : World} {rv : Value} {R : List Int} {nd : Value} {CV : List Value} {NX : List (List Int)} {td : Value} {TG : List Nat}
theorem GO.below (h : GO B lb cv W rv R nd CV NX td TG w) (hb : Below w.heap.size w w') : GO B lb cv W rv R nd CV NX td TG w' := Foot.below h hb
theorem GO.rowAt (h : GO B lb cv W rv R nd CV NX td TG w) : w.ownsRow B 3 1 rv R.length (zs R) := by
  have := h.ok 2 _ rfl
  have h2 : w.ownsRow B 3 1 rv (zs R).length (zs R) := this
  rwa [List.length_map] at h2
theorem GO.leB (h : GO B lb cv W rv R nd CV NX td TG w) : B ≤ w.heap.size := Nat.le_trans (Foot.le h) (Foot.bel h).size
theorem GO.push (h : GO B lb cv W rv R nd CV NX td TG w) {z : Int} {v' : Value} (hown : w'.ownsRow B 3 1 v' (R.length + 1) (zs R ++ [.int .i64 z])) (hg : w.grownBy w' rv.ownBlock) (hat : v'.ownBlock = rv.ownBlock ∨ v'.ownBlock = some w.heap.size) : GO B lb cv W v' (R ++ [z]) nd CV NX td TG w' := by
  have e : zs R ++ [.int .i64 z] = zs (R ++ [z]) := by simp [zs]
  rw [e] at hown
  exact Foot.push h 2 rfl (ys := zs (R ++ [z])) (by rw [show (zs (R ++ [z])).length = R.length + 1 by simp]; exact hown) hg hat
theorem GO.blk (h : GO B lb cv W rv R nd CV NX td TG w) : w.heap[lb]? = some (.cells (cv ++ #[nd, td]) 30 (0, 0)) := h.ok 0 _ rfl
theorem GO.nx (h : GO B lb cv W rv R nd CV NX td TG w) : NxOk B nd CV NX w := h.ok 3 _ rfl
theorem GO.tg (h : GO B lb cv W rv R nd CV NX td TG w) : w.ownsRow B 43 1 td TG.length (u64s TG) := by
  have := h.ok 4 _ rfl
  have h2 : w.ownsRow B 43 1 td (u64s TG).length (u64s TG) := this
  rwa [List.length_map] at h2
/-- A new row. -/
theorem GO.fresh (h : GO B lb cv W rv R nd CV NX td TG w) (hR : rv.ownBlock = none) {v' : Value} (hown : w'.ownsRow B 3 1 v' 0 []) (hb : Below w.heap.size w w') (hv : ∀ b, v'.ownBlock = some b → w.heap.size ≤ b) : GO B lb cv W v' [] nd CV NX td TG w' :=
  (Foot.upd h 2 rfl (rowI B 3 v' []) (Touch.mono (Touch.below hb) (by simp)) hown fun b hb => by
    have hb' : v'.ownBlock = some b := by
      have : b ∈ v'.ownBlock.toList := hb
      simpa using this
    exact ⟨.inr (hv b hb'), (owns_lt hown b hb').2⟩)
/-- The row is one of the rows now. -/
theorem GO.next (h : GO B lb cv W rv R nd CV NX td TG w) (hs : cv.size = 256) (hl : CV.length = NX.length) {v' : Value} (hown : w'.ownsRow B 56 1 v' (CV.length + 1) (CV ++ [rv])) (hg : w.grownBy w' nd.ownBlock) (hat : v'.ownBlock = nd.ownBlock ∨ v'.ownBlock = some w.heap.size) :
    w'.heap[lb]? = some (.cells (cv ++ #[nd, td]) 30 (0, 0)) ∧ GO B lb cv W nil1 [] v' (CV ++ [rv]) (NX ++ [R]) td TG (w'.setCell ⟨lb, 256, none⟩ v') := by
  have hnx := h.nx
  have hin : ∀ b, b ∈ inBl CV NX.length → b < w.heap.size := fun b hb => (Foot.lt h 3 _ rfl b (List.mem_append.2 (.inr hb))).2
  have hoff : ∀ b, b ∈ inBl CV NX.length → v'.ownBlock ≠ some b := by
    intro b hb e
    rcases hat with h1 | h1
    · exact hnx.off b hb (by rw [← h1]; exact e)
    · rw [h1] at e; injection e with e; have := hin b hb; omega
  have h1 := Foot.upd h 3 rfl (nxI B v' (CV ++ [rv]) NX) (Touch.mono (Touch.grown hg) (fun g hg => List.mem_append.2 (.inl hg))) ⟨by rw [List.length_append, List.length_singleton]; exact hown, by rw [List.length_append]; omega, fun i u x hu hx => by
    have hi := (List.getElem?_eq_some_iff.1 hx).1
    rw [List.getElem?_append_left (by omega)] at hu
    refine owns_kept (hnx.each i u x hu hx) fun g hgu => ?_
    have hm : g ∈ inBl CV NX.length := inBl_mem.2 ⟨i, u, hi, hu, hgu⟩
    exact hg.block g (hin g hm) (fun e => hnx.off g hm e.symm), fun b hb => by
    rw [inBl_app (by omega)] at hb
    exact hoff b hb⟩ (fun b hb => by
    rcases List.mem_append.1 (show b ∈ v'.ownBlock.toList ++ inBl (CV ++ [rv]) NX.length from hb) with h2 | h2
    · have hb' : v'.ownBlock = some b := by simpa using h2
      refine ⟨?_, (owns_lt hown b hb').2⟩
      rcases hat with e1 | e1
      · exact .inl (List.mem_append.2 (.inl (by rw [← e1, hb']; simp)))
      · rw [e1] at hb'; injection hb' with hb'; exact .inr (by omega)
    · rw [inBl_app (by omega)] at h2
      exact ⟨.inl (List.mem_append.2 (.inr h2)), by have := hin b h2; have := hg.size; omega⟩)
  have hrv : w'.ownsRow B 3 1 rv R.length (zs R) := by
    have h2 : w'.ownsRow B 3 1 rv (zs R).length (zs R) := h1.ok 2 _ rfl
    rwa [List.length_map] at h2
  have hz : NxOk B v' (CV ++ [rv]) (NX ++ [R]) w' := by
    have hk : NxOk B v' (CV ++ [rv]) NX w' := h1.ok 3 _ rfl
    refine ⟨hk.row, by rw [List.length_append, List.length_append]; simp; omega, fun i u x hu hx => ?_, fun b hb => ?_⟩
    · rcases Nat.lt_or_ge i NX.length with hi | hi
      · rw [List.getElem?_append_left hi] at hx
        exact hk.each i u x hu hx
      · have hi2 := (List.getElem?_eq_some_iff.1 hx).1
        rw [List.length_append, List.length_singleton] at hi2
        have : i = NX.length := by omega
        subst this
        rw [List.getElem?_append_right (Nat.le_refl _), Nat.sub_self] at hx
        rw [List.getElem?_append_right (by omega), hl, Nat.sub_self] at hu
        injection hx with hx
        injection hu with hu
        subst hx hu
        exact hrv
    · rw [List.length_append, List.length_singleton, ← hl] at hb
      rcases inBl_last hb with h2 | h2
      · exact hoff b (by rw [← hl]; exact h2)
      · intro e
        have := h1.apart 3 2 _ _ b rfl rfl (List.mem_append.2 (.inl (show b ∈ v'.ownBlock.toList by rw [e]; simp))) (show b ∈ rv.ownBlock.toList by rw [h2]; simp)
        omega
  have h2 := h1.join 3 2 rfl rfl (by decide) (nxI B v' (CV ++ [rv]) (NX ++ [R])) (rowI B 3 nil1 (zs [])) hz (World.ownsRow_nil w' _ 3 1) rfl (fun b hb => by
    rcases List.mem_append.1 (show b ∈ v'.ownBlock.toList ++ inBl (CV ++ [rv]) (NX ++ [R]).length from hb) with h3 | h3
    · exact .inl (List.mem_append.2 (.inl h3))
    · rw [List.length_append, List.length_singleton, ← hl] at h3
      rcases inBl_last h3 with h4 | h4
      · exact .inl (List.mem_append.2 (.inr (by rw [inBl_app (by omega), ← hl]; exact h4)))
      · exact .inr (show b ∈ rv.ownBlock.toList by rw [h4]; simp))
  have hbk : w'.heap[lb]? = some (.cells (cv ++ #[nd, td]) 30 (0, 0)) := h2.ok 0 _ rfl
  refine ⟨hbk, ?_⟩
  exact h2.upd 0 rfl (blkI lb (.cells (cv ++ #[v', td]) 30 (0, 0))) (Touch.set w' lb 256 v') (by
    show (w'.setCell ⟨lb, 256, none⟩ v').heap[lb]? = _
    rw [heap_setCell_same w' lb 256 _ 30 v' hbk, set_mid hs]) (fun b hb => ⟨.inl hb, by
    have e : b = lb := by simpa [blkI] using hb
    rw [e, World.size_setCell]; exact (Array.getElem?_eq_some_iff.1 hbk).1⟩)
/-- A tag more. -/
theorem GO.tag (h : GO B lb cv W rv R nd CV NX td TG w) (hs : cv.size = 256) {q : Nat} {v' : Value} (hown : w'.ownsRow B 43 1 v' (TG.length + 1) (u64s TG ++ [.int .u64 (q : Int)])) (hg : w.grownBy w' td.ownBlock) (hat : v'.ownBlock = td.ownBlock ∨ v'.ownBlock = some w.heap.size) :
    w'.heap[lb]? = some (.cells (cv ++ #[nd, td]) 30 (0, 0)) ∧ GO B lb cv W rv R nd CV NX v' (TG ++ [q]) (w'.setCell ⟨lb, 257, none⟩ v') := by
  have e : u64s TG ++ [.int .u64 (q : Int)] = u64s (TG ++ [q]) := by simp [u64s]
  rw [e] at hown
  have h2 := Foot.push h 4 rfl (ys := u64s (TG ++ [q])) (by rw [show (u64s (TG ++ [q])).length = TG.length + 1 by simp]; exact hown) hg hat
  have hbk : w'.heap[lb]? = some (.cells (cv ++ #[nd, td]) 30 (0, 0)) := h2.ok 0 _ rfl
  refine ⟨hbk, ?_⟩
  exact h2.upd 0 rfl (blkI lb (.cells (cv ++ #[nd, v']) 30 (0, 0))) (Touch.set w' lb 257 v') (by
    show (w'.setCell ⟨lb, 257, none⟩ v').heap[lb]? = _
    rw [heap_setCell_same w' lb 257 _ 30 v' hbk, set_end hs]) (fun b hb => ⟨.inl hb, by
    have e : b = lb := by simpa [blkI] using hb
    rw [e, World.size_setCell]; exact (Array.getElem?_eq_some_iff.1 hbk).1⟩)
theorem GO.c256 (h : GO B lb cv W rv R nd CV NX td TG w) (hs : cv.size = 256) : w.cell? ⟨lb, 256, none⟩ = some nd ∧ w.cell? ⟨lb, 257, none⟩ = some td ∧ lb < w.heap.size := by
  refine ⟨?_, ?_, (Array.getElem?_eq_some_iff.1 h.blk).1⟩
  · rw [Lib.cell_of_heap h.blk, Array.getElem?_append_right (by omega), hs]; rfl
  · rw [Lib.cell_of_heap h.blk, Array.getElem?_append_right (by omega), hs]; rfl
/-- The next row begins. -/
theorem GO.start (h : GO B lb cv W rv R nd CV NX td TG w) (hR : R = []) (hr : rv = nil1) : GO B lb cv W nil1 [] nd CV NX td TG w := by
  subst hR hr
  exact h
/-- It begins. -/
theorem GO.begin_ {w0 w1 : World} {cv : Array Value} (hb : Below w0.heap.size w0 w1) (hn : w1.heap[w0.heap.size]? = some (.cells (cv ++ #[nil1, nil1]) 30 (0, 0))) : GO w0.heap.size w0.heap.size cv w0 nil1 [] nil1 [] [] nil1 [] w1 := by
  have h1 := (Foot.empty w0 w0.heap.size (Nat.le_refl _)).add (blkI w0.heap.size (.cells (cv ++ #[nil1, nil1]) 30 (0, 0))) hb hn (fun b hb => by
    have : b = w0.heap.size := by simpa [blkI] using hb
    have := (Array.getElem?_eq_some_iff.1 hn).1
    omega)
  exact (((h1.add noneI (Below.refl _ _) trivial (fun b hb => by simp [noneI] at hb)).add (rowI w0.heap.size 3 nil1 (zs [])) (Below.refl _ _) (World.ownsRow_nil w1 _ 3 1) (fun b hb => by simp [rowI, Value.ownBlock, nil1] at hb)).add (nxI w0.heap.size nil1 [] []) (Below.refl _ _) ⟨World.ownsRow_nil w1 _ 56 1, Nat.le_refl _, fun i u x hu => by simp at hu, fun b hb => by simp [inBl] at hb⟩ (fun b hb => by simp [nxI, inBl, Value.ownBlock, nil1] at hb)).add (rowI w0.heap.size 43 nil1 (u64s [])) (Below.refl _ _) (World.ownsRow_nil w1 _ 43 1) (fun b hb => by simp [rowI, Value.ownBlock, nil1] at hb)
theorem GO.lies {cs : List Int} (h : GO B lb (ivs cs) W rv R nd CV NX td TG w) (hc : cs.length = 256) (hl : CV.length = NX.length) (ht : ∀ t ∈ TG, t < 18446744073709551616) (h1 : NX.length ≤ maxLen) (h2 : TG.length ≤ maxLen) (h3 : ∀ l ∈ NX, l.length ≤ maxLen) : Lies ⟨cs, NX, TG⟩ (ivs cs ++ #[nd, td]) w ∧ Bxx lb (ivs cs ++ #[nd, td]) w :=
  ⟨⟨nd, td, rfl, ⟨hc, nx_rows h.nx hl, tg_tags h.tg ht, ⟨h1, h2⟩, h3⟩⟩, h.blk⟩
end
end Go.Proofs.YtochckefnjobhaaDoor
namespace Go.Proofs.X6
open X5 (Aut rowOf)
def rowT (D : Aut) (i : Nat) : List Int := (rowOf D (from_ D.next.length i)).map (oth D.next.length)
def tagT (D : Aut) (i : Nat) : Nat := D.tags.getD (from_ D.next.length i) 0
/-- The other way round. -/
def turn (D : Aut) : Aut := ⟨D.cls, (List.range D.next.length).map (rowT D), (List.range D.next.length).map (tagT D)⟩
theorem turn_is {D : Aut} {K : Nat} : Turned K D (turn D) where
  cls := rfl
  len := by simp [turn]
  tl := by simp [turn]
  row i hi := by
    show rowOf (turn D) i = rowT D i
    unfold rowOf turn
    simp [List.getD_eq_getElem?_getD, hi]
  tag i hi := by
    show (turn D).tags.getD i 0 = tagT D i
    unfold turn
    simp [List.getD_eq_getElem?_getD, hi]
end Go.Proofs.X6
