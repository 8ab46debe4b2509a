/- What MiniNone lays: automata with other tags, with a state more. -/
import Derived.Test.YtochckefnjobhaaDoorKx
import Derived.Test.YtochckefnjobhaaDoorKy
namespace Go.Proofs.YtochckefnjobhaaDoor
open Go Go.RowKit Go.Lib
open X5 (Aut)
set_option linter.unusedVariables false
set_option linter.unusedSimpArgs false

theorem made_sets (n : Nat) (hn : n ≤ 1000000) (w : World) : (Instr.makeSlice 28 (.int .i64 (n : Int)) (.int .i64 (n : Int))).run Tryd.prog w = .ok (.slice (some ⟨w.heap.size, 0, none⟩) n n) (w.alloc (.cells (Array.replicate n (.int .u64 0)) 43)) := by
  obtain ⟨i0, hi, hz0, hz1, hz2⟩ := info_parts info43
  have := run_makeSlice (P := Tryd.prog) (w := w) 28 43 i0 (.int .u64 0) Tryd.underlying28 hi hz0 .i64 .i64 (n : Int) (n : Int) (by omega) (by omega) (by rw [hz1]; omega) (by rw [hz2]; omega) (by omega)
  rw [this, hz1]
  have e : madeCells (Value.int .u64 0).cells ((n : Int).toNat * 1) = Array.replicate n (.int .u64 0) := by
    rw [Int.toNat_natCast, Nat.mul_one]
    refine Array.ext (by simp [madeCells]) fun i h1 h2 => ?_
    simp [madeCells, Value.cells, Nat.mod_one]
  rw [e, Int.toNat_natCast]
/-- Its tags, all nothing. -/
theorem none_at {w w' : World} {nv tv : Value} {D : Aut} {n b : Nat} (h : DAt w nv tv D) (hb : Below w.heap.size w w') (hn : D.next.length = n) (hc : w'.heap[b]? = some (.cells (Array.replicate n (.int .u64 0)) 43 (0, 0))) : DAt w' nv (.slice (some ⟨b, 0, none⟩) n n) ⟨D.cls, D.next, List.replicate n 0⟩ := by
  have h' := h.below hb
  have hl := (Array.getElem?_eq_some_iff.1 hc).1
  refine ⟨h'.len, h'.rows, ⟨some ⟨b, 0, none⟩, n, by simp, fun i hi => ⟨b, 0, rfl, hl, ?_, ?_⟩⟩, ⟨h.few.1, by show (List.replicate n 0).length ≤ maxLen; rw [List.length_replicate, ← hn]; exact h.few.1⟩, h'.short⟩
  · have hi' : i < n := by simpa using hi
    rw [Nat.zero_add, Lib.cell_of_heap hc]
    simp [hi']
  · simp
/-- What lies in the rows' slice. -/
theorem next_vals {w : World} {o : Option Addr} {n c : Nat} {l : List (List Int)} (h : RowsAt w (.slice o n c) l) (hp : 0 < n) : ∃ (b off : Nat) (NV : List Value), o = some ⟨b, off, none⟩ ∧ b < w.heap.size ∧ l.length = n ∧ NV.length = n ∧ (∀ (j : Nat) (u : Value), NV[j]? = some u → w.cell? ⟨b, off + j, none⟩ = some u ∧ u.oneCell' = true) ∧ ∀ (i : Nat) (u : Value) (x : List Int), NV[i]? = some u → l[i]? = some x → RowAtI w u x := by
  obtain ⟨ro, rc, e, h1⟩ := h
  injection e with e1 e2 e3
  subst e1 e2 e3
  obtain ⟨b, off, _, rfl, hb, _, _⟩ := h1 0 hp
  refine ⟨b, off, (List.range l.length).map fun i => (w.cell? ⟨b, off + i, none⟩).getD undef, rfl, hb, rfl, by simp, fun j u hu => ?_, fun i u x hu hx => ?_⟩
  · have hj : j < l.length := by
      have := (List.getElem?_eq_some_iff.1 hu).1
      simpa using this
    obtain ⟨b', off', rv, e, _, hc, ro', rc', hr, _⟩ := h1 j hj
    injection e with e
    injection e with e4 e5 _
    subst e4 e5
    have : u = rv := by
      have : ((List.range l.length).map fun i => (w.cell? ⟨b, off + i, none⟩).getD undef)[j]? = some rv := by simp [hj, hc]
      rw [this] at hu
      exact (Option.some.inj hu).symm
    rw [this]
    exact ⟨hc, by rw [hr]; rfl⟩
  · obtain ⟨hi, rfl⟩ := List.getElem?_eq_some_iff.1 hx
    obtain ⟨b', off', rv, e, _, hc, hr⟩ := h1 i hi
    injection e with e
    injection e with e4 e5 _
    subst e4 e5
    have : u = rv := by
      have : ((List.range l.length).map fun i => (w.cell? ⟨b, off + i, none⟩).getD undef)[i]? = some rv := by simp [hi, hc]
      rw [this] at hu
      exact (Option.some.inj hu).symm
    rw [this]
    exact hr
/-- A state more. -/
theorem more_at {w : World} {B n K t : Nat} {cs : List Int} {NX : List (List Int)} {TG : List Nat} {vn vt vm : Value} {NV : List Value} (hl : cs.length = 256) (hn : w.ownsRow B 56 1 vn (n + 1) (NV ++ [vm])) (hNV : NV.length = n) (hNX : NX.length = n) (hr : ∀ (i : Nat) (u : Value) (x : List Int), NV[i]? = some u → NX[i]? = some x → RowAtI w u x) (hm : w.ownsRow B 3 1 vm K (zs (List.replicate K 0)))
    (hTG : TG.length = n) (ht : w.ownsRow B 43 1 vt (n + 1) (u64s (TG ++ [t]))) (h64 : ∀ x ∈ TG ++ [t], x < 18446744073709551616) (hsn : n ≤ 1000000) (hsK : K ≤ 1000000) (hrl : ∀ l ∈ NX, l.length ≤ maxLen) : DAt w vn vt ⟨cs, NX ++ [List.replicate K 0], TG ++ [t]⟩ := by
  refine ⟨hl, ?_, tg_tags (by rw [List.length_append, List.length_singleton, hTG]; exact ht) h64, ⟨by show (NX ++ [List.replicate K 0]).length ≤ maxLen; unfold maxLen; rw [List.length_append, List.length_singleton]; omega, by show (TG ++ [t]).length ≤ maxLen; unfold maxLen; rw [List.length_append, List.length_singleton]; omega⟩, fun l hq => ?_⟩
  · obtain ⟨o, c, rfl⟩ := own_shape hn
    refine ⟨o, c, by rw [List.length_append, List.length_singleton, hNX], fun i hi => ?_⟩
    have hi' : i < n + 1 := by rw [List.length_append, List.length_singleton, hNX] at hi; exact hi
    obtain ⟨u, hu⟩ : ∃ u, (NV ++ [vm])[i]? = some u := ⟨_, List.getElem?_eq_getElem (by rw [List.length_append, List.length_singleton, hNV]; exact hi')⟩
    obtain ⟨g, rfl, hc, hg⟩ := own_at hn hi' hu
    refine ⟨g, 0, u, rfl, hg, by rw [Nat.zero_add]; exact hc, ?_⟩
    by_cases h1 : i < n
    · rw [List.getElem?_append_left (by omega)] at hu
      have hx : NX[i]? = some ((NX ++ [List.replicate K 0])[i]) := by rw [List.getElem_append_left (by omega), List.getElem?_eq_getElem]
      exact hr i u _ hu hx
    · have h2 : i = n := by omega
      subst h2
      rw [List.getElem?_append_right (by omega), hNV, Nat.sub_self] at hu
      injection hu with hu
      subst hu
      have e : (NX ++ [List.replicate K 0])[i] = List.replicate K 0 := by rw [List.getElem_append_right (by omega)]; simp
      show RowAtI w _ ((NX ++ [List.replicate K 0])[i])
      rw [e]
      exact own_rowAtI (by rw [List.length_replicate]; exact hm)
  · rcases List.mem_append.1 hq with h1 | h1
    · exact hrl l h1
    · rw [List.mem_singleton.1 h1, List.length_replicate]
      unfold maxLen
      omega
end Go.Proofs.YtochckefnjobhaaDoor

/- What MiniNone's walk holds. -/
namespace Go.Proofs.YtochckefnjobhaaDoor
open Go Go.RowKit Go.Lib
open X5 (Aut)
set_option linter.unusedVariables false
set_option linter.unusedSimpArgs false

/-- A place for a thing is taken. -/
theorem Foot.put {B : Nat} {W w w' : World} {l : List Item} (h : Foot B W w l) (i : Nat) (hx : l[i]? = some noneI) (y : Item) (hb : Below w.heap.size w w') (hy : y.ok w') (hl : ∀ b ∈ y.bl, w.heap.size ≤ b ∧ b < w'.heap.size) : Foot B W w' (l.set i y) :=
  h.upd i hx y (Touch.mono (Touch.below hb) (by simp)) hy fun b hb => ⟨.inr (hl b hb).1, (hl b hb).2⟩
/-- A row of nothing, laid anew. -/
theorem Foot.nil_ {B : Nat} {W w w' : World} {l : List Item} (h : Foot B W w l) (i : Nat) (hx : l[i]? = some noneI) {e : TypeId} (he : w.alloc (.cells #[] e) = w') : Foot B W w' (l.set i (rowI B e (.slice (some ⟨w.heap.size, 0, none⟩) 0 0) [])) := by
  have hb : Below w.heap.size w w' := by rw [← he]; exact (Below.refl _ _).alloc (Nat.le_refl _) _
  have hn : w'.heap[w.heap.size]? = some (.cells #[] e (0, 0)) := by rw [← he]; exact new_block _ _
  have hB : B ≤ w.heap.size := Nat.le_trans (Foot.le h) (Foot.bel h).size
  have ho : w'.ownsRow B e 1 (.slice (some ⟨w.heap.size, 0, none⟩) 0 0) 0 [] := ⟨rfl, .inr ⟨w.heap.size, 0, #[], rfl, hB, hn, Nat.le_refl _, Nat.zero_le _, rfl, rfl⟩⟩
  refine h.put i hx _ hb ho fun b hb => ?_
  have hb' : b = w.heap.size := by
    have : b ∈ (Value.slice (some ⟨w.heap.size, 0, none⟩) 0 0).ownBlock.toList := hb
    simpa [Value.ownBlock] using this
  subst hb'
  exact ⟨Nat.le_refl _, (Array.getElem?_eq_some_iff.1 hn).1⟩
/-- A row of zeros. -/
theorem Foot.zeros {B : Nat} {W w w' : World} {l : List Item} (h : Foot B W w l) (i : Nat) (hx : l[i]? = some noneI) {K : Nat} (hK : K ≤ 1000000) (he : w.alloc (.cells (Array.replicate K (.int .i64 0)) 3) = w') : Foot B W w' (l.set i (rowI B 3 (.slice (some ⟨w.heap.size, 0, none⟩) K K) (zs (List.replicate K 0)))) := by
  have hb : Below w.heap.size w w' := by rw [← he]; exact (Below.refl _ _).alloc (Nat.le_refl _) _
  have hn : w'.heap[w.heap.size]? = some (.cells (Array.replicate K (.int .i64 0)) 3 (0, 0)) := by rw [← he]; exact new_block _ _
  have hB : B ≤ w.heap.size := Nat.le_trans (Foot.le h) (Foot.bel h).size
  have hz : (zs (List.replicate K 0)).length = K := by simp [zs]
  have ho : w'.ownsRow B 3 1 (.slice (some ⟨w.heap.size, 0, none⟩) K K) (zs (List.replicate K 0)).length (zs (List.replicate K 0)) := by
    rw [hz]
    refine ⟨by rw [hz, Nat.mul_one], .inr ⟨w.heap.size, K, _, rfl, hB, hn, Nat.le_refl _, by unfold maxLen; omega, by simp, ?_⟩⟩
    rw [Nat.mul_one]
    simp [zs]
  refine h.put i hx _ hb ho fun b hb => ?_
  have hb' : b = w.heap.size := by
    have : b ∈ (Value.slice (some ⟨w.heap.size, 0, none⟩) K K).ownBlock.toList := hb
    simpa [Value.ownBlock] using this
  subst hb'
  exact ⟨Nat.le_refl _, (Array.getElem?_eq_some_iff.1 hn).1⟩
/-- A block of one's own. -/
theorem Foot.block {B : Nat} {W w w' : World} {l : List Item} (h : Foot B W w l) (i : Nat) (hx : l[i]? = some noneI) {o : Obj} (he : w.alloc o = w') : Foot B W w' (l.set i (blkI w.heap.size o)) := by
  have hb : Below w.heap.size w w' := by rw [← he]; exact (Below.refl _ _).alloc (Nat.le_refl _) _
  have hn : w'.heap[w.heap.size]? = some o := by rw [← he]; exact new_block _ _
  refine h.put i hx _ hb hn fun b hb => ?_
  have hb' : b = w.heap.size := by simpa [blkI] using hb
  subst hb'
  exact ⟨Nat.le_refl _, (Array.getElem?_eq_some_iff.1 hn).1⟩
theorem Foot.rowAt {B : Nat} {W w : World} {l : List Item} (h : Foot B W w l) (i : Nat) {e : TypeId} {v : Value} {xs : List Value} (hx : l[i]? = some (rowI B e v xs)) : w.ownsRow B e 1 v xs.length xs := h.ok i _ hx
theorem Foot.blkAt {B : Nat} {W w : World} {l : List Item} (h : Foot B W w l) (i : Nat) {b : Nat} {o : Obj} (hx : l[i]? = some (blkI b o)) : w.heap[b]? = some o := h.ok i _ hx
theorem Foot.leB {B : Nat} {W w : World} {l : List Item} (h : Foot B W w l) : B ≤ w.heap.size := Nat.le_trans (Foot.le h) (Foot.bel h).size
/-- A cell of a block of one's own is stored to. -/
theorem Foot.cell {B : Nat} {W w : World} {l : List Item} (h : Foot B W w l) (i : Nat) {b k : Nat} {cs : Array Value} {e : TypeId} (hx : l[i]? = some (blkI b (.cells cs e (0, 0)))) (v : Value) : Foot B W (w.setCell ⟨b, k, none⟩ v) (l.set i (blkI b (.cells (cs.setIfInBounds k v) e (0, 0)))) := by
  have hb := h.blkAt i hx
  refine h.upd i hx _ (Touch.set w b k v) (heap_setCell_same w b k cs e v hb) fun c hc => ⟨.inl hc, ?_⟩
  have e : c = b := by simpa [blkI] using hc
  rw [e, World.size_setCell]; exact (Array.getElem?_eq_some_iff.1 hb).1
/-- Some of another row's values behind one's own. -/
theorem wp_rows {w : World} {o : Oper} {a : Act} {K : Act → World → Prop} {Q : Exit → Act → World → Prop} (s x : Operand) (t e : TypeId) (ho : o.op = .call { callee := .builtin .append, args := #[s, x], argTypes := #[t, t] })
    (z : Value) (bytes : Nat) (ht : Tryd.prog.underlying t = some (.slice e)) (hinfo : (Tryd.prog.info? e).map (fun i => (i.zero, i.size, i.bytes)) = some (some z, 1, bytes)) (hz1 : z.cells.size = 1) (hby : bytes ≤ 24)
    (base : Nat) (v : Value) (hs : a.eval s = v) (hown : w.ownsRow base e 1 v 0 []) (ad : Addr) (m c : Nat) (news : List Value) (hx : a.eval x = .slice (some ad) m c) (hl : news.length = m) (hnews : ∀ j u, news[j]? = some u → w.cell? (ad.add j) = some u) (h1 : ∀ u ∈ news, u.oneCell' = true) (hn : m ≤ 1000000) (hbase : base ≤ w.heap.size)
    (h : ∀ v' w', w'.ownsRow base e 1 v' news.length news → w.grownBy w' v.ownBlock → (v'.ownBlock = v.ownBlock ∨ v'.ownBlock = some w.heap.size) → K (a.put o.dst v') w') : o.wp Tryd.prog a w K Q := by
  obtain ⟨i, hi, h0, h2, h3⟩ := info_parts hinfo
  refine wp_append_own_at s x t ho base e i z 1 bytes ht hi h0 h2 h3 hz1 (by decide) v 0 [] hs hown ad m c news hx (by omega) hnews h1 (by unfold maxLen; omega) ?_ hbase (fun v' w' a1 a2 _ a4 => h v' w' (by rw [Nat.zero_add, List.nil_append, ← hl] at a1; exact a1) a2 a4)
  exact Nat.le_trans (Nat.mul_le_mul (show 0 + m ≤ 1000000 by omega) hby) (by decide)
theorem wpList_rows {ops : Array Oper} {rest : List Oper} {o : Oper} {a : Act} {w : World} {Q : Exit → Act → World → Prop} (hgd : o.guard = none) (s x : Operand) (t e : TypeId) (ho : o.op = .call { callee := .builtin .append, args := #[s, x], argTypes := #[t, t] })
    (z : Value) (bytes : Nat) (ht : Tryd.prog.underlying t = some (.slice e)) (hinfo : (Tryd.prog.info? e).map (fun i => (i.zero, i.size, i.bytes)) = some (some z, 1, bytes)) (hz1 : z.cells.size = 1) (hby : bytes ≤ 24)
    (base : Nat) (v : Value) (hs : a.eval s = v) (hown : w.ownsRow base e 1 v 0 []) (ad : Addr) (m c : Nat) (news : List Value) (hx : a.eval x = .slice (some ad) m c) (hl : news.length = m) (hnews : ∀ j u, news[j]? = some u → w.cell? (ad.add j) = some u) (h1 : ∀ u ∈ news, u.oneCell' = true) (hn : m ≤ 1000000) (hbase : base ≤ w.heap.size)
    (h : ∀ v' w', w'.ownsRow base e 1 v' news.length news → w.grownBy w' v.ownBlock → (v'.ownBlock = v.ownBlock ∨ v'.ownBlock = some w.heap.size) → wpList Tryd.prog ops Q rest (a.put o.dst v') w') : wpList Tryd.prog ops Q (o :: rest) a w := by
  refine wpList_plain hgd fun K hK => ?_
  exact wp_rows s x t e ho z bytes ht hinfo hz1 hby base v hs hown ad m c news hx hl hnews h1 hn hbase fun v' w' a1 a2 a3 => hK _ _ (h v' w' a1 a2 a3)
theorem none_begin {w0 w1 : World} {o : Obj} (hb : Below w0.heap.size w0 w1) (hn : w1.heap[w0.heap.size]? = some o) : Foot w0.heap.size w0 w1 [blkI w0.heap.size o, noneI, noneI, noneI, noneI, noneI] := by
  have h1 := (Foot.empty w0 w0.heap.size (Nat.le_refl _)).add (blkI w0.heap.size o) hb hn (fun b hb => by
    have : b = w0.heap.size := by simpa [blkI] using hb
    have := (Array.getElem?_eq_some_iff.1 hn).1
    omega)
  have no : ∀ b ∈ noneI.bl, w1.heap.size ≤ b ∧ b < w1.heap.size := fun b hb => by simp [noneI] at hb
  exact ((((h1.add noneI (Below.refl _ _) trivial no).add noneI (Below.refl _ _) trivial no).add noneI (Below.refl _ _) trivial no).add noneI (Below.refl _ _) trivial no).add noneI (Below.refl _ _) trivial no
theorem add_one_cell {b off j : Nat} : (⟨b, off, none⟩ : Addr).add j = ⟨b, off + j, none⟩ := by unfold Addr.add; split <;> simp_all
/-- The tags' slice. -/
theorem tag_vals {w : World} {o : Option Addr} {n c : Nat} {l : List Nat} (h : TagsAt w (.slice o n c) l) (hp : 0 < n) : ∃ (b off : Nat), o = some ⟨b, off, none⟩ ∧ b < w.heap.size ∧ l.length = n ∧ ∀ (j : Nat) (u : Value), (u64s l)[j]? = some u → w.cell? ⟨b, off + j, none⟩ = some u := by
  obtain ⟨ro, rc, e, h1⟩ := h
  injection e with e1 e2 e3
  subst e1 e2 e3
  obtain ⟨b, off, rfl, hb, _⟩ := h1 0 hp
  refine ⟨b, off, rfl, hb, rfl, fun j u hu => ?_⟩
  have hj : j < l.length := by
    have := (List.getElem?_eq_some_iff.1 hu).1
    simpa [u64s] using this
  obtain ⟨b', off', e, _, hc, _⟩ := h1 j hj
  injection e with e
  injection e with e4 e5 _
  subst e4 e5
  rw [hc, ← hu]
  simp [u64s, hj]
end Go.Proofs.YtochckefnjobhaaDoor
