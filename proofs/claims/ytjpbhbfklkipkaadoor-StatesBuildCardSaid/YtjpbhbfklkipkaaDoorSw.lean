/- The automaton while it is built: what each step makes of what lies in memory. -/
import Derived.Test.YtjpbhbfklkipkaaDoorSv
namespace Go.Proofs.YtjpbhbfklkipkaaDoor
open Go Go.RowKit Go.Lib
open X14 (It numX)
set_option linter.unusedVariables false
set_option linter.unusedSimpArgs false
/-- Two things are two other ones now, in the same blocks. -/
theorem Foot.two {B : Nat} {W w : World} {l : List Item} (h : Foot B W w l) (i j : Nat) {x y : Item} (hx : l[i]? = some x) (hy : l[j]? = some y) (hij : i ≠ j) (z u : Item) (hz : z.ok w) (hu : u.ok w) (hbz : ∀ b ∈ z.bl, b ∈ x.bl ∨ b ∈ y.bl) (hbu : ∀ b ∈ u.bl, b ∈ x.bl ∨ b ∈ y.bl) (hd : ∀ b ∈ z.bl, b ∉ u.bl) : Foot B W w ((l.set j u).set i z) := by
  have hil := (List.getElem?_eq_some_iff.1 hx).1
  have hjl := (List.getElem?_eq_some_iff.1 hy).1
  have key : ∀ (k : Nat) v, ((l.set j u).set i z)[k]? = some v → (k = i ∧ v = z) ∨ (k = j ∧ v = u) ∨ (k ≠ i ∧ k ≠ j ∧ l[k]? = some v) := by
    intro k v hv
    by_cases e : k = i
    · subst e
      rw [List.getElem?_set_self (by rw [List.length_set]; exact hil)] at hv
      injection hv with hv
      exact .inl ⟨rfl, hv.symm⟩
    · rw [List.getElem?_set_ne (fun e' => e e'.symm)] at hv
      by_cases e2 : k = j
      · subst e2
        rw [List.getElem?_set_self hjl] at hv
        injection hv with hv
        exact .inr (.inl ⟨rfl, hv.symm⟩)
      · rw [List.getElem?_set_ne (fun e' => e2 e'.symm)] at hv
        exact .inr (.inr ⟨e, e2, hv⟩)
  have out : ∀ b, (b ∈ x.bl ∨ b ∈ y.bl) → (B ≤ b ∧ b < w.heap.size) ∧ ∀ k v, k ≠ i → k ≠ j → l[k]? = some v → b ∉ v.bl := fun b hb => by
    rcases hb with hb | hb
    · exact ⟨h.lt i x hx b hb, fun k v k1 k2 hv hm => k1 (h.apart k i v x b hv hx hm hb)⟩
    · exact ⟨h.lt j y hy b hb, fun k v k1 k2 hv hm => k2 (h.apart k j v y b hv hy hm hb)⟩
  refine ⟨h.bel, h.le, fun k v hv => ?_, fun k v hv b hb => ?_, fun k m v q b hv hq hb hb' => ?_⟩
  · rcases key k v hv with ⟨_, rfl⟩ | ⟨_, rfl⟩ | ⟨_, _, h3⟩
    · exact hz
    · exact hu
    · exact h.ok k v h3
  · rcases key k v hv with ⟨_, rfl⟩ | ⟨_, rfl⟩ | ⟨_, _, h3⟩
    · exact (out b (hbz b hb)).1
    · exact (out b (hbu b hb)).1
    · exact h.lt k v h3 b hb
  · rcases key k v hv with ⟨rfl, rfl⟩ | ⟨rfl, rfl⟩ | ⟨k1, k2, k3⟩
    · rcases key m q hq with ⟨rfl, rfl⟩ | ⟨rfl, rfl⟩ | ⟨m1, m2, m3⟩
      · rfl
      · exact absurd hb' (hd b hb)
      · exact absurd hb' ((out b (hbz b hb)).2 m q m1 m2 m3)
    · rcases key m q hq with ⟨rfl, rfl⟩ | ⟨rfl, rfl⟩ | ⟨m1, m2, m3⟩
      · exact absurd hb (hd b hb')
      · rfl
      · exact absurd hb' ((out b (hbu b hb)).2 m q m1 m2 m3)
    · rcases key m q hq with ⟨rfl, rfl⟩ | ⟨rfl, rfl⟩ | ⟨m1, m2, m3⟩
      · exact absurd hb ((out b (hbz b hb')).2 k v k1 k2 k3)
      · exact absurd hb ((out b (hbu b hb')).2 k v k1 k2 k3)
      · exact h.apart k m v q b k3 m3 hb hb'
theorem made_ints (n : Nat) (hn : n ≤ 1000000) (w : World) : (Instr.makeSlice 58 (.int .i64 0) (.int .i64 (n : Int))).run Tryd.prog w = .ok (.slice (some ⟨w.heap.size, 0, none⟩) 0 n) (w.alloc (.cells (Array.replicate n (.int .i64 0)) 3)) := by
  obtain ⟨i0, hi, hz0, hz1, hz2⟩ := info_parts info3
  have := run_makeSlice (P := Tryd.prog) (w := w) 58 3 i0 (.int .i64 0) Tryd.underlying58 hi hz0 .i64 .i64 (0 : Int) (n : Int) (by omega) (by omega) (by rw [hz1]; omega) (by rw [hz2]; omega) (by omega)
  rw [this, hz1]
  have e : madeCells (Value.int .i64 0).cells ((n : Int).toNat * 1) = Array.replicate n (.int .i64 0) := by
    rw [Int.toNat_natCast, Nat.mul_one]
    refine Array.ext (by simp [madeCells]) fun i h1 h2 => ?_
    simp [madeCells, Value.cells, Nat.mod_one]
  rw [e, Int.toNat_natCast]
  rfl
/-- A map of rows and its rows, as one thing. -/
def pairI (b : Nat) (L : List (Value × Value)) (R : List (Nat × List It)) : Item where
  bl := b :: R.map (·.1)
  ok w := MapIs Tryd.prog 29 w b L ∧ ∀ q ∈ R, RowH w q.1 q.2
  kept h hw := ⟨hw.1.kept (h b (by simp)), fun q hq => (hw.2 q hq).kept (h q.1 (List.mem_cons_of_mem _ (List.mem_map.2 ⟨q, hq, rfl⟩)))⟩
def rowsOf (f : Int → List It) (M : List Ent) : List (Nat × List It) := M.map fun p => (p.2.1, f p.1)
section
variable {B : Nat} {W w w' : World} {bA bN bM bG bR : Nat} {gc : Array Value} {kv nv : Value} {K : List KR} {N : List NR} {F : List (Nat × List It)} {rv : Value} {xs : List Value} {mi : Item}
/-- Behind the call that tells items by their symbols. -/
theorem BF.steps (h : BF B W w bA bN bM bG bR gc kv nv K N F rv xs mi) {f : Int → List It} {b : Nat} {M : List Ent} (hs : StI w w' f b M) : BF B W w' bA bN bM bG bR gc kv nv K N (F ++ rowsOf f M) rv xs (mapI 29 b (M.map (entV f))) := by
  have hrow : ∀ q ∈ rowsOf f M, RowH w' q.1 q.2 ∧ w.heap.size ≤ q.1 ∧ q.1 < w'.heap.size ∧ b ≠ q.1 := fun q hq => by
    obtain ⟨p, hp, rfl⟩ := List.mem_map.1 hq
    have h1 := hs.own p hp
    obtain ⟨cur, hc⟩ := own_block_cells h1
    exact ⟨RowH.of_own h1 rfl, (owns_lt h1 p.2.1 rfl).1, (owns_lt h1 p.2.1 rfl).2, map_not_cells hs.map hc⟩
  have h1 := h.foot.upd 10 rfl (pairI b (M.map (entV f)) (rowsOf f M)) ((Touch.below hs.bel).mono (by simp)) ⟨hs.map, fun q hq => (hrow q hq).1⟩ (fun c hc => by
    rcases List.mem_cons.1 hc with e | e
    · rw [e]; exact ⟨.inr hs.ge, hs.map.lt⟩
    · obtain ⟨q, hq, rfl⟩ := List.mem_map.1 e
      exact ⟨.inr (hrow q hq).2.1, (hrow q hq).2.2.1⟩)
  have h2 := h1.two 5 10 rfl rfl (by decide) (frozI (F ++ rowsOf f M)) (mapI 29 b (M.map (entV f))) (fun q hq => by
    rcases List.mem_append.1 hq with e | e
    · exact (h1.ok 5 _ rfl) q e
    · exact (hrow q e).1) hs.map (fun c hc => by
    obtain ⟨q, hq, rfl⟩ := List.mem_map.1 hc
    rcases List.mem_append.1 hq with e | e
    · exact .inl (List.mem_map.2 ⟨q, e, rfl⟩)
    · exact .inr (List.mem_cons_of_mem _ (List.mem_map.2 ⟨q, e, rfl⟩))) (fun c hc => by
    have e : c = b := by
      have : c ∈ [b] := hc
      simpa using this
    rw [e]
    exact .inr (List.mem_cons_self)) (fun c hc hc2 => by
    have e : c = b := by
      have : c ∈ [b] := hc2
      simpa using this
    subst e
    obtain ⟨q, hq, e2⟩ := List.mem_map.1 hc
    rcases List.mem_append.1 hq with e | e
    · have h5 := (h.foot.lt 5 _ rfl q.1 (List.mem_map.2 ⟨q, e, rfl⟩)).2
      have h6 := hs.ge
      omega
    · exact (hrow q e).2.2.2 e2.symm)
  exact ⟨h2, fun q hq => List.mem_append_left _ (h.inF q hq)⟩
/-- A new row is begun. -/
theorem BF.begin_ (h : BF B W w bA bN bM bG bR gc kv nv K N F rv xs mi) {n : Nat} (hn : n ≤ 1000000) (ew : w.alloc (.cells (Array.replicate n (.int .i64 0)) 3) = w') : BF B W w' bA bN bM bG bR gc kv nv K N F (.slice (some ⟨w.heap.size, 0, none⟩) 0 n) [] mi := by
  have hb : Below w.heap.size w w' := by rw [← ew]; exact (Below.refl _ _).alloc (Nat.le_refl _) _
  have hh : w'.heap[w.heap.size]? = some (.cells (Array.replicate n (.int .i64 0)) 3 (0, 0)) := by rw [← ew]; exact new_block _ _
  refine ⟨h.foot.upd 7 rfl (rowI B 3 (.slice (some ⟨w.heap.size, 0, none⟩) 0 n) []) ((Touch.below hb).mono (by simp)) ?_ ?_, h.inF⟩
  · exact ⟨by simp, .inr ⟨_, _, _, rfl, h.size, hh, by simp, (by unfold maxLen; omega), by simp, by simp⟩⟩
  · intro c hc
    have e : c = w.heap.size := by
      have : c ∈ (Value.slice (some ⟨w.heap.size, 0, none⟩) 0 n).ownBlock.toList := hc
      simpa [Value.ownBlock] using this
    rw [e]
    exact ⟨.inr (Nat.le_refl _), (Array.getElem?_eq_some_iff.1 hh).1⟩
/-- A number more. -/
theorem BF.number (h : BF B W w bA bN bM bG bR gc kv nv K N F rv xs mi) {v' : Value} {ys : List Value} (hown : w'.ownsRow B 3 1 v' ys.length ys) (hg : w.grownBy w' rv.ownBlock) (hat : v'.ownBlock = rv.ownBlock ∨ v'.ownBlock = some w.heap.size) : BF B W w' bA bN bM bG bR gc kv nv K N F v' ys mi :=
  ⟨h.foot.push 7 rfl hown hg hat, h.inF⟩
/-- The row is done. -/
theorem BF.next_ {R : List Int} {g c : Nat} (h : BF B W w bA bN bM bG bR gc kv nv K N F (.slice (some ⟨g, 0, none⟩) R.length c) (zints R) mi) {v' : Value} (hown : w'.ownsRow B 58 1 v' (N.length + 1) (N.map nval ++ [.slice (some ⟨g, 0, none⟩) R.length c])) (hg : w.grownBy w' nv.ownBlock) (hat : v'.ownBlock = nv.ownBlock ∨ v'.ownBlock = some w.heap.size) :
    w'.heap[bA]? = some (.cells #[kv, nv] 49 (0, 0)) ∧ BF B W (w'.setCell ⟨bA, 1, none⟩ v') bA bN bM bG bR gc kv v' K (N ++ [(g, c, R)]) F (.slice none 0 0) [] noneI := by
  have e2 : (N ++ [(g, c, R)]).map nval = N.map nval ++ [.slice (some ⟨g, 0, none⟩) R.length c] := by simp [nval]
  have h1 := h.foot.push 4 (ys := N.map nval ++ [.slice (some ⟨g, 0, none⟩) R.length c]) rfl (by rw [List.length_append, List.length_map]; exact hown) hg hat
  have h2 := foot_cell (k := 1) (v := v') h1 0 rfl
  have hrow := h2.ok 7 _ rfl
  have h3 := h2.two 6 7 rfl rfl (by decide) (nfI (N ++ [(g, c, R)])) (rowI B 3 (.slice none 0 0) []) (fun q hq => by
    rcases List.mem_append.1 hq with e | e
    · exact (h2.ok 6 _ rfl) q e
    · obtain rfl : q = (g, c, R) := by simpa using e
      refine own_intH (n := R.length) (c := c) (B := B) ?_
      have hl : (zints R).length = R.length := by unfold zints; rw [List.length_map]
      have : World.ownsRow _ B 3 1 (.slice (some ⟨g, 0, none⟩) R.length c) (zints R).length (zints R) := hrow
      rw [hl] at this
      exact this) (World.ownsRow_nil _ _ _ _) (fun b hb => by
    obtain ⟨q, hq, rfl⟩ := List.mem_map.1 hb
    rcases List.mem_append.1 hq with e | e
    · exact .inl (List.mem_map.2 ⟨q, e, rfl⟩)
    · obtain rfl : q = (g, c, R) := by simpa using e
      refine .inr ?_
      show g ∈ (Value.slice (some ⟨g, 0, none⟩) R.length c).ownBlock.toList
      simp [Value.ownBlock]) (fun b hb => by
    have : b ∈ (Value.slice none 0 0).ownBlock.toList := hb
    simp [Value.ownBlock] at this) (fun b _ hb => by
    have : b ∈ (Value.slice none 0 0).ownBlock.toList := hb
    simp [Value.ownBlock] at this)
  have h4 := h3.say 10 rfl noneI trivial (fun b hb => by cases hb)
  refine ⟨h1.ok 0 _ rfl, ?_, h.inF⟩
  unfold bItems
  rw [e2]
  exact h4
theorem BF.ker (h : BF B W w bA bN bM bG bR gc kv nv K N F rv xs mi) (hK : K.length ≤ 1000000) {i : Nat} {q : KR} (hi : K[i]? = some q) : ∃ g c, kv = .slice (some ⟨g, 0, none⟩) K.length c ∧ w.cell? ⟨g, i, none⟩ = some (kval q) := by
  obtain ⟨o, c, e⟩ := own_shape h.rowK
  rw [List.length_map] at e
  have hr := own_rows (p := fun j u => (K.map kval)[j]? = some u) h.rowK (by rw [List.length_map]; omega) (fun j u hu => hu)
  rw [e] at hr
  obtain ⟨b, off, u, e1, e2, e3⟩ := hr.at_ (k := i) (by rw [List.length_map]; exact (List.getElem?_eq_some_iff.1 hi).1)
  have hu : u = kval q := by
    have e3' : (K.map kval)[i]? = some u := e3
    rw [List.getElem?_map, hi] at e3'
    exact (Option.some.inj e3').symm
  have hrow := h.rowK
  rw [e, List.length_map] at hrow
  rcases hrow.2 with ⟨h1, h2⟩ | ⟨g, cap, cur, h1, _⟩
  · injection h1 with h1
    rw [h1] at e1
    cases e1
  · injection h1 with h1 _ h2
    rw [h1] at e1
    injection e1 with e1
    injection e1 with e1 e4
    subst e1
    refine ⟨g, c, by rw [e, h1], ?_⟩
    rw [← hu, show i = off + i by omega]
    exact e2
end
end Go.Proofs.YtjpbhbfklkipkaaDoor
