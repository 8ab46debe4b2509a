/- The automaton while it is built: what lies in memory; a kernel's number. -/
import Derived.Test.YtjpbhbfklkipkaaDoorSs
namespace Go.Proofs.YtjpbhbfklkipkaaDoor
open Go Go.RowKit Go.Lib
open X14 (It numX)
open Go.Maps (Keyed)
set_option linter.unusedVariables false
set_option linter.unusedSimpArgs false
theorem info28 : (Tryd.prog.info? 28).map (fun i => (i.zero, i.size, i.bytes)) = some (some (.slice none 0 0), 1, 24) := by kernel_rfl
theorem info58 : (Tryd.prog.info? 58).map (fun i => (i.zero, i.size, i.bytes)) = some (some (.slice none 0 0), 1, 24) := by kernel_rfl
theorem info3 : (Tryd.prog.info? 3).map (fun i => (i.zero, i.size, i.bytes)) = some (some (.int .i64 0), 1, 8) := by kernel_rfl
/-- One element more, of one cell. -/
theorem wpList_push1 {ops : Array Oper} {rest : List Oper} {o : Oper} {a : Act} {w : World} {Q : Exit → Act → World → Prop} (hgd : o.guard = none) (s x : Operand) (t e : TypeId) (ho : o.op = .call { callee := .builtin .append, args := #[s, x], argTypes := #[t, t] })
    (z : Value) (bytes : Nat) (ht : Tryd.prog.underlying t = some (.slice e)) (hinfo : (Tryd.prog.info? e).map (fun i => (i.zero, i.size, i.bytes)) = some (some z, 1, bytes)) (hz1 : z.cells.size = 1) (hby : bytes ≤ 24)
    (base : Nat) (v : Value) (xs : List Value) (hs : a.eval s = v) (hown : w.ownsRow base e 1 v xs.length xs) (g : Nat) (hx : a.eval x = .slice (some ⟨g, 0, none⟩) 1 1) (q : Value) (hb : w.heap[g]? = some (.cells #[q] e (0, 0))) (hq : q.oneCell' = true) (hn : xs.length ≤ 1000000) (hbase : base ≤ w.heap.size)
    (h : ∀ v' w', w'.ownsRow base e 1 v' (xs ++ [q]).length (xs ++ [q]) → w.grownBy w' v.ownBlock → (v'.ownBlock = v.ownBlock ∨ v'.ownBlock = some w.heap.size) → wpList Tryd.prog ops Q rest (a.put o.dst v') w') : wpList Tryd.prog ops Q (o :: rest) a w := by
  obtain ⟨i, hi, h0, h1, h2⟩ := info_parts hinfo
  refine wpList_append_own_at w hgd s x t ho base e i z 1 bytes ht hi h0 h1 h2 hz1 (by decide) v xs.length xs hs hown ⟨g, 0, none⟩ 1 1 [q] hx rfl (fun j u hj => ?_) (fun u hu => ?_) (by unfold maxLen; omega) ?_ hbase (fun v' w' a1 a2 _ a4 => h v' w' (by rw [List.length_append]; exact a1) a2 a4)
  · rw [add_one_cell, Nat.zero_add, Lib.cell_of_heap hb, ← hj]
    simp
  · obtain rfl : u = q := by simpa using hu
    exact hq
  · have : (xs.length + 1) * bytes ≤ (xs.length + 1) * 24 := Nat.mul_le_mul_left _ hby
    omega
/-- A row of items, in a block: its block, its room, what it has. -/
abbrev KR := Nat × Nat × List It
def kval (q : KR) : Value := .slice (some ⟨q.1, 0, none⟩) q.2.2.length q.2.1
def kers (K : List KR) : List (List It) := K.map (·.2.2)
/-- A row of numbers, in a block. -/
abbrev NR := Nat × Nat × List Int
def nval (q : NR) : Value := .slice (some ⟨q.1, 0, none⟩) q.2.2.length q.2.1
def nxts (N : List NR) : List (List Int) := N.map (·.2.2)
def zints (l : List Int) : List Value := l.map fun x => .int .i64 x
/-- Numbers in a block. -/
def IntH (w : World) (g : Nat) (l : List Int) : Prop := ∀ i x, l[i]? = some x → w.cell? ⟨g, i, none⟩ = some (.int .i64 x)
/-- Rows of items that are never written again. -/
def frozI (F : List (Nat × List It)) : Item where
  bl := F.map (·.1)
  ok w := ∀ q ∈ F, RowH w q.1 q.2
  kept h hw q hq := (hw q hq).kept (h q.1 (List.mem_map.2 ⟨q, hq, rfl⟩))
def nfI (N : List NR) : Item where
  bl := N.map (·.1)
  ok w := ∀ q ∈ N, IntH w q.1 q.2.2
  kept {w w'} h hw q hq i x hi := (World.cell?_of_block (a := ⟨q.1, i, none⟩) (h q.1 (List.mem_map.2 ⟨q, hq, rfl⟩))).trans (hw q hq i x hi)
def keyV (k : List It) : Value := .string ⟨(keyI k).toArray⟩
theorem keyV_inj {a b : List It} (h : keyV a = keyV b) : a = b := by
  unfold keyV at h
  injection h with h
  injection h with h
  have := congrArg Array.toList h
  exact keyI_inj (by simpa using this)
theorem key9 {k : List It} (hr : ∀ x ∈ k, inR x) (hl : k.length ≤ 1000000) : keyOf Tryd.prog 9 (keyV k) = some (.string (keyI k)) :=
  WideMaps.keyOf_string_mk Tryd.underlying9 (s := ⟨(keyI k).toArray⟩) (by
    show (keyI k).toArray.size ≤ maxLen
    rw [List.size_toArray]
    have := keyI_len k hr
    unfold maxLen; omega)
def kmap (L : List (List It)) : List (Value × Value) := L.zipIdx.map fun p => (keyV p.1, .int .i64 (p.2 : Int))
theorem kmap_some {L : List (List It)} {k : List It} {i : Nat} (h : L[i]? = some k) : (keyV k, Value.int .i64 (i : Int)) ∈ kmap L := by
  unfold kmap
  exact List.mem_map.2 ⟨(k, i), by rw [List.mem_zipIdx_iff_getElem?]; exact h, rfl⟩
theorem kmap_none {L : List (List It)} {k : List It} (h : k ∉ L) : ∀ p ∈ kmap L, p.1 ≠ keyV k := by
  intro p hp he
  obtain ⟨q, hq, rfl⟩ := List.mem_map.1 hp
  rw [List.mem_zipIdx_iff_getElem?] at hq
  have : q.1 = k := keyV_inj he
  exact h (this ▸ List.mem_of_getElem? hq)
theorem kmap_push (L : List (List It)) (k : List It) : kmap (L ++ [k]) = kmap L ++ [(keyV k, .int .i64 (L.length : Int))] := by
  unfold kmap
  rw [List.zipIdx_append, List.map_append]
  simp
theorem zero3 (w : World) : (zeroValue 3).run Tryd.prog w = .ok (.int .i64 0) w := by kernel_rfl
/-- What lies in memory while the automaton is built. -/
def bItems (B bA bN bM bG bR : Nat) (gc : Array Value) (kv nv : Value) (K : List KR) (N : List NR) (F : List (Nat × List It)) (rv : Value) (xs : List Value) (mi : Item) : List Item :=
  [blkI bA (.cells #[kv, nv] 49 (0, 0)), blkI bN (.cells #[.map (some bM)] 78 (0, 0)), mapI 9 bM (kmap (kers K)), rowI B 28 kv (K.map kval), rowI B 58 nv (N.map nval), frozI F, nfI N, rowI B 3 rv xs, blkI bG (.cells gc 27 (0, 0)), blkI bR (.cells #[.slice none 0 0, .slice none 0 0] 49 (0, 0)), mi]
/-- A kernel's value: nothing, or a row that is never written again. -/
def KerAt (F : List (Nat × List It)) (v : Value) (k : List It) : Prop := (v = .slice none 0 0 ∧ k = []) ∨ ∃ g c, v = .slice (some ⟨g, 0, none⟩) k.length c ∧ k ≠ [] ∧ (g, k) ∈ F
theorem KerAt.items {F : List (Nat × List It)} {v : Value} {k : List It} {w : World} (h : KerAt F v k) (hF : (frozI F).ok w) (hl : k.length ≤ 9223372036854775807) : ItemsAt w v k := by
  rcases h with ⟨rfl, rfl⟩ | ⟨g, c, rfl, _, h2⟩
  · exact items_nil w
  · exact rowH_items (hF _ h2) hl
structure BF (B : Nat) (W w : World) (bA bN bM bG bR : Nat) (gc : Array Value) (kv nv : Value) (K : List KR) (N : List NR) (F : List (Nat × List It)) (rv : Value) (xs : List Value) (mi : Item) : Prop where
  foot : Foot B W w (bItems B bA bN bM bG bR gc kv nv K N F rv xs mi)
  inF : ∀ q ∈ K, (q.1, q.2.2) ∈ F
section
variable {B : Nat} {W w w' : World} {bA bN bM bG bR : Nat} {gc : Array Value} {kv nv : Value} {K : List KR} {N : List NR} {F : List (Nat × List It)} {rv : Value} {xs : List Value} {mi : Item}
theorem BF.below (h : BF B W w bA bN bM bG bR gc kv nv K N F rv xs mi) (hb : Below w.heap.size w w') : BF B W w' bA bN bM bG bR gc kv nv K N F rv xs mi := ⟨h.foot.below hb, h.inF⟩
theorem BF.boxA (h : BF B W w bA bN bM bG bR gc kv nv K N F rv xs mi) : w.heap[bA]? = some (.cells #[kv, nv] 49 (0, 0)) := h.foot.ok 0 _ rfl
theorem BF.boxN (h : BF B W w bA bN bM bG bR gc kv nv K N F rv xs mi) : w.heap[bN]? = some (.cells #[.map (some bM)] 78 (0, 0)) := h.foot.ok 1 _ rfl
theorem BF.map_ (h : BF B W w bA bN bM bG bR gc kv nv K N F rv xs mi) : MapIs Tryd.prog 9 w bM (kmap (kers K)) := h.foot.ok 2 _ rfl
theorem BF.rowK (h : BF B W w bA bN bM bG bR gc kv nv K N F rv xs mi) : w.ownsRow B 28 1 kv (K.map kval).length (K.map kval) := h.foot.ok 3 _ rfl
theorem BF.rowN (h : BF B W w bA bN bM bG bR gc kv nv K N F rv xs mi) : w.ownsRow B 58 1 nv (N.map nval).length (N.map nval) := h.foot.ok 4 _ rfl
theorem BF.froz (h : BF B W w bA bN bM bG bR gc kv nv K N F rv xs mi) : (frozI F).ok w := h.foot.ok 5 _ rfl
theorem BF.nf (h : BF B W w bA bN bM bG bR gc kv nv K N F rv xs mi) : (nfI N).ok w := h.foot.ok 6 _ rfl
theorem BF.row (h : BF B W w bA bN bM bG bR gc kv nv K N F rv xs mi) : w.ownsRow B 3 1 rv xs.length xs := h.foot.ok 7 _ rfl
theorem BF.boxG (h : BF B W w bA bN bM bG bR gc kv nv K N F rv xs mi) : w.heap[bG]? = some (.cells gc 27 (0, 0)) := h.foot.ok 8 _ rfl
theorem BF.boxR (h : BF B W w bA bN bM bG bR gc kv nv K N F rv xs mi) : w.heap[bR]? = some (.cells #[.slice none 0 0, .slice none 0 0] 49 (0, 0)) := h.foot.ok 9 _ rfl
theorem BF.mi_ (h : BF B W w bA bN bM bG bR gc kv nv K N F rv xs mi) : mi.ok w := h.foot.ok 10 _ rfl
theorem BF.bel (h : BF B W w bA bN bM bG bR gc kv nv K N F rv xs mi) : Below B W w := h.foot.bel
theorem BF.size (h : BF B W w bA bN bM bG bR gc kv nv K N F rv xs mi) : B ≤ w.heap.size := Nat.le_trans h.foot.le h.foot.bel.size
end
end Go.Proofs.YtjpbhbfklkipkaaDoor
