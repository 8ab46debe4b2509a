/- Maps, told by what they hold; great arrays. -/
import Derived.Maps.Own
import Derived.Maps.OwnOps
import Derived.DeepKeys4
import Derived.Laws.Rows
import Derived.Great.Walk
import Derived.Test.YtochckefnjobhaaGreatDoorWf
import Derived.Test.YtochckefnjobhaaGreatDoorWt
import Derived.Laws.Tables
import Derived.Shelf.Lay
import Derived.Shelf.LaysM
import Derived.Shelf.Strconv.AppendIntPublic10
import Derived.Laws.IdiomStrings
import Derived.Lib.BufferRead
namespace Go.Proofs.YtochckefnjobhaaGreatDoor
open Go Go.RowKit Go.Lib Go.MapKept Go.ChangeMaps
open Go.Maps (Keyed)
set_option linter.unusedVariables false
set_option linter.unusedSimpArgs false
structure MapIs (P : Program) (k : TypeId) (w : World) (b : Nat) (L : List (Value × Value)) : Prop where
 ex : ∃ es clock, w.heap[b]? = some (.map es clock) ∧ es.toList.map (fun e => (e.key, e.val)) = L
 keyed : ∀ p ∈ L, ∃ l, keyOf P k p.1 = some l
 apart : (L.map (·.1)).Nodup
section
variable {P : Program} {k e t : TypeId} {w : World} {b : Nat} {L : List (Value × Value)}
theorem MapIs.made (w : World) : MapIs P k (w.alloc (.map #[] 0)) w.heap.size [] := ⟨⟨#[], 0, (MapKept.heap_alloc w _).1, rfl⟩, by simp, by simp⟩
theorem MapIs.lt (h : MapIs P k w b L) : b < w.heap.size := by
 obtain ⟨es, clock, hb, _⟩ := h.ex
 exact (Array.getElem?_eq_some_iff.1 hb).1
theorem MapIs.kept {w' : World} (h : MapIs P k w b L) (hb : w'.heap[b]? = w.heap[b]?) : MapIs P k w' b L := by
 obtain ⟨es, clock, h1, h2⟩ := h.ex
 exact ⟨⟨es, clock, hb.trans h1, h2⟩, h.keyed, h.apart⟩
theorem MapIs.below {w' : World} (h : MapIs P k w b L) (hb : Below w.heap.size w w') : MapIs P k w' b L := h.kept (hb.block b h.lt)
theorem MapIs.entry {es : Array MapEntry} (h : es.toList.map (fun e => (e.key, e.val)) = L) {x : MapEntry} (hx : x ∈ es.toList) : (x.key, x.val) ∈ L := by
 rw [← h]; exact List.mem_map.2 ⟨x, hx, rfl⟩
theorem MapIs.keys (h : MapIs P k w b L) {es : Array MapEntry} (he : es.toList.map (fun e => (e.key, e.val)) = L) : ∀ x ∈ es.toList, ∃ l, keyOf P k x.key = some l :=
 fun x hx => h.keyed _ (MapIs.entry he hx)
theorem pair_val {L : List (Value × Value)} (hn : (L.map (·.1)).Nodup) {x u v : Value} (h1 : (x, u) ∈ L) (h2 : (x, v) ∈ L) : u = v := by
 induction L with
 | nil => cases h1
 | cons p L ih =>
  rw [List.map_cons, List.nodup_cons] at hn
  rcases List.mem_cons.1 h1 with e1 | h1
  ·rcases List.mem_cons.1 h2 with e2 | h2
   ·rw [← e1] at e2; injection e2 with _ e2; exact e2.symm
   ·exact absurd (List.mem_map.2 ⟨_, h2, by rw [← e1]⟩) hn.1
  ·rcases List.mem_cons.1 h2 with e2 | h2
   ·exact absurd (List.mem_map.2 ⟨_, h1, by rw [← e2]⟩) hn.1
   ·exact ih hn.2 h1 h2
theorem MapIs.look_some (h : MapIs P k w b L) (K : Keyed P k) (ht : P.underlying t = some (.map k e)) {x v : Value} {lx : Lit} (hkey : keyOf P k x = some lx) (hm : (x, v) ∈ L) :
  (Instr.lookup t (.map (some b)) x true).run P w = .ok (.tuple #[v, .bool true]) w := by
 obtain ⟨es, clock, hb, he⟩ := h.ex
 rcases K.find w hkey es.toList (h.keys he) with ⟨h1, h2⟩ | ⟨j, e0, h1, h2, h3⟩
 ·rw [← he] at hm
  obtain ⟨y, hy, hyx⟩ := List.mem_map.1 hm
  injection hyx with e1 _
  exact absurd e1 (h2 y hy)
 ·have hv : e0.val = v := pair_val h.apart (by rw [← h3]; exact MapIs.entry he (List.mem_of_getElem? h2)) hm
  simp [Instr.lookup, run_underlying ht, MapKept.run_getObj_map hb, K.check w _ hkey, h1, hv, Result.andThen]
theorem MapIs.look_none (h : MapIs P k w b L) (K : Keyed P k) (ht : P.underlying t = some (.map k e)) {x z : Value} {lx : Lit} (hkey : keyOf P k x = some lx) (hz : (zeroValue e).run P w = .ok z w) (hn : ∀ p ∈ L, p.1 ≠ x) :
  (Instr.lookup t (.map (some b)) x true).run P w = .ok (.tuple #[z, .bool false]) w := by
 obtain ⟨es, clock, hb, he⟩ := h.ex
 rcases K.find w hkey es.toList (h.keys he) with ⟨h1, h2⟩ | ⟨j, e0, h1, h2, h3⟩
 ·simp [Instr.lookup, run_underlying ht, MapKept.run_getObj_map hb, K.check w _ hkey, h1, hz, Result.andThen]
 ·exact absurd h3 (hn _ (MapIs.entry he (List.mem_of_getElem? h2)))
theorem MapIs.put (h : MapIs P k w b L) (K : Keyed P k) (ht : P.underlying t = some (.map k e)) {x v : Value} {lx : Lit} (hkey : keyOf P k x = some lx) (hn : ∀ p ∈ L, p.1 ≠ x) :
  ∃ w', (Instr.mapUpdate t (.map (some b)) x v).run P w = .ok () w' ∧ MapIs P k w' b (L ++ [(x, v)]) ∧ w.grownBy w' (some b) := by
 obtain ⟨es, clock, hb, he⟩ := h.ex
 rcases K.find w hkey es.toList (h.keys he) with ⟨h1, h2⟩ | ⟨j, e0, h1, h2, h3⟩
 ·refine ⟨setBlock w b (.map (es.push { key := x, val := v, born := clock }) (clock + 1)), ?_, ⟨⟨_, _, heap_setBlock_same hb _, by simp [he]⟩, ?_, ?_⟩, ⟨rfl, rfl, rfl, by simp [setBlock], fun i _ hi => heap_setBlock_other hb _ (fun e => hi (by rw [e]))⟩⟩
  ·simp [Instr.mapUpdate, run_underlying ht, MapKept.run_getObj_map hb, K.check w _ hkey, h1, MapKept.run_setObj_map _ hb, Result.andThen, setBlock]
  ·intro p hp
   rcases List.mem_append.1 hp with hp | hp
   ·exact h.keyed p hp
   ·simp at hp; subst hp; exact ⟨lx, hkey⟩
  ·rw [List.map_append, List.nodup_append]
   refine ⟨h.apart, by simp, ?_⟩
   intro a ha b' hb'
   simp at hb'
   subst hb'
   obtain ⟨p, hp, rfl⟩ := List.mem_map.1 ha
   exact hn p hp
 ·exact absurd h3 (hn _ (MapIs.entry he (List.mem_of_getElem? h2)))
theorem wpList_look_some {ops : Array Oper} {rest : List Oper} {o : Oper} {a : Act} {Q : Exit → Act → World → Prop} (hg : o.guard = none) (m x : Operand) (t : TypeId) (hop : o.op = Op.lookup t m x true)
  (K : Keyed P k) (ht : P.underlying t = some (.map k e)) (hm : a.eval m = .map (some b)) (h : MapIs P k w b L) (xv v : Value) (lx : Lit) (hx : a.eval x = xv) (hkey : keyOf P k xv = some lx) (hmem : (xv, v) ∈ L)
  (hK : wpList P ops Q rest (a.put o.dst (.tuple #[v, .bool true])) w) : wpList P ops Q (o :: rest) a w := by
 refine wpList_plain hg fun K' hK' => ?_
 have hrun := h.look_some K ht hkey hmem
 unfold Oper.wp
 simp [execOp, hop, hm, hx, hrun, Result.andThen]
 exact hK' _ _ hK
theorem wpList_look_none {ops : Array Oper} {rest : List Oper} {o : Oper} {a : Act} {Q : Exit → Act → World → Prop} (hg : o.guard = none) (m x : Operand) (t : TypeId) (hop : o.op = Op.lookup t m x true)
  (K : Keyed P k) (ht : P.underlying t = some (.map k e)) (hm : a.eval m = .map (some b)) (h : MapIs P k w b L) (xv z : Value) (lx : Lit) (hx : a.eval x = xv) (hkey : keyOf P k xv = some lx) (hz : (zeroValue e).run P w = .ok z w) (hn : ∀ p ∈ L, p.1 ≠ xv)
  (hK : wpList P ops Q rest (a.put o.dst (.tuple #[z, .bool false])) w) : wpList P ops Q (o :: rest) a w := by
 refine wpList_plain hg fun K' hK' => ?_
 have hrun := h.look_none K ht hkey hz hn
 unfold Oper.wp
 simp [execOp, hop, hm, hx, hrun, Result.andThen]
 exact hK' _ _ hK
theorem wpList_put {ops : Array Oper} {rest : List Oper} {o : Oper} {a : Act} {Q : Exit → Act → World → Prop} (hg : o.guard = none) (m x v : Operand) (t : TypeId) (hop : o.op = Op.mapUpdate t m x v ∨ o.op = Op.insert t m x v)
  (K : Keyed P k) (ht : P.underlying t = some (.map k e)) (hm : a.eval m = .map (some b)) (h : MapIs P k w b L) (xv vv : Value) (lx : Lit) (hx : a.eval x = xv) (hv : a.eval v = vv) (hkey : keyOf P k xv = some lx) (hn : ∀ p ∈ L, p.1 ≠ xv)
  (hK : ∀ w', MapIs P k w' b (L ++ [(xv, vv)]) → w.grownBy w' (some b) → wpList P ops Q rest (a.put o.dst undef) w') : wpList P ops Q (o :: rest) a w := by
 refine wpList_plain hg fun K' hK' => ?_
 obtain ⟨w', hrun, h1, h2⟩ := h.put (v := vv) K ht hkey hn
 unfold Oper.wp
 rcases hop with hop | hop
 ·simp [execOp, hop, hm, hx, hv, hrun, Result.andThen]
  exact hK' _ _ (hK w' h1 h2)
 ·simp [execOp, hop, hm, hx, hv, hrun, Result.andThen]
  exact hK' _ _ (hK w' h1 h2)
theorem wpList_mlen {ops : Array Oper} {rest : List Oper} {o : Oper} {a : Act} {Q : Exit → Act → World → Prop} (hg : o.guard = none) (m : Operand) (t : TypeId) (hop : o.op = .call { callee := .builtin .len, args := #[m], argTypes := #[t] })
  (ht : P.underlying t = some (.map k e)) (hm : a.eval m = .map (some b)) (h : MapIs P k w b L) (n : Nat) (hn : L.length = n) (hK : wpList P ops Q rest (a.put o.dst (.int .i64 (n : Int))) w) : wpList P ops Q (o :: rest) a w := by
 refine wpList_plain hg fun K' hK' => ?_
 obtain ⟨es, clock, hb, he⟩ := h.ex
 have hl : es.size = n := by rw [← hn, ← he]; simp
 unfold Oper.wp
 simp [execOp, hop, resolve, invoke, builtin, Builtin.len_, Builtin.lenOf, hm, run_underlying ht, MapKept.run_getObj_map hb, hl, Result.andThen, goInt]
 exact hK' _ _ hK
theorem wpList_made {ops : Array Oper} {rest : List Oper} {o : Oper} {a : Act} {Q : Exit → Act → World → Prop} (hg : o.guard = none) (t : TypeId) (hop : o.op = .alloc t) (z : Value) (hz : (zeroValue t).run P w = .ok z w)
  (hK : wpList P ops Q rest (a.put o.dst (.pointer (some ⟨w.heap.size, 0, none⟩))) (w.alloc (.cells z.cells t))) : wpList P ops Q (o :: rest) a w := by
 refine wpList_plain hg fun K' hK' => ?_
 unfold Oper.wp
 simp [execOp, hop, Instr.alloc, hz, newVar, newRow, Result.andThen]
 exact hK' _ _ hK
end
theorem zero26 (w : World) : (zeroValue 22).run Tryz.prog w = .ok (.agg (Array.replicate 256 (.int .i64 0))) w := by kernel_rfl
theorem size26 : (Tryz.prog.info? 22).map (·.size) = some 256 := by kernel_rfl
theorem keyed9 : Keyed Tryz.prog 9 := Maps.string_keyed Tryz.underlying9
theorem laidout : laidOutB Tryz.prog = true := by kernel_rfl
theorem keyed131 : Keyed Tryz.prog 80 := Maps.Keyed.of_law (deep_law_laid laidout (m := 2) (by omega) (of_decide_eq_true (by kernel_rfl)) (by kernel_rfl) (by kernel_rfl))
theorem keyed36 : Keyed Tryz.prog 43 := Maps.Keyed.of_law (deep_law_laid laidout (m := 2) (by omega) (of_decide_eq_true (by kernel_rfl)) (by kernel_rfl) (by kernel_rfl))
end Go.Proofs.YtochckefnjobhaaGreatDoor
namespace Go.Proofs.YtochckefnjobhaaGreatDoor
open Go Go.RowKit Go.Lib
set_option linter.unusedVariables false
set_option linter.unusedSimpArgs false
theorem key131 (a b : Int) (ha : (Lit.int .i64 a).wf = true) (hb : (Lit.int .i64 b).wf = true) : ∃ l, keyOf Tryz.prog 80 (.agg #[.int .i64 a, .int .i64 b]) = some l := by
 have hu := Tryz.underlying80
 have hk : Tryz.prog.keyType 80 = true := by kernel_rfl
 have c1 : Tryz.prog.cellsOf 80 = 2 := by kernel_rfl
 have c2 : Tryz.prog.cellsOf 3 = 1 := by kernel_rfl
 have hs : ∃ m, Tryz.prog.types.size = m + 1 := ⟨Tryz.prog.types.size - 1, by kernel_rfl⟩
 obtain ⟨m, hm⟩ := hs
 have hf : Value.formed Tryz.prog 80 (.agg #[.int .i64 a, .int .i64 b]) = true := by
  simp [Value.formed, hu, c1]
 unfold keyOf
 rw [hu]
 simp only [hk, hf, Bool.and_self, if_true, Value.cells, hm]
 simp [Program.keyLits, hu, c1, c2, Tryz.underlying3, ha, hb, List.range, List.range.loop, List.mapM_cons]
theorem key36 (a b c d : Int) (ha : (Lit.int .u64 a).wf = true) (hb : (Lit.int .u64 b).wf = true) (hc : (Lit.int .u64 c).wf = true) (hd : (Lit.int .u64 d).wf = true) : ∃ l, keyOf Tryz.prog 43 (.agg #[.int .u64 a, .int .u64 b, .int .u64 c, .int .u64 d]) = some l := by
 have hu := Tryz.underlying43
 have hk : Tryz.prog.keyType 43 = true := by kernel_rfl
 have c1 : Tryz.prog.cellsOf 43 = 4 := by kernel_rfl
 have c2 : Tryz.prog.cellsOf 42 = 1 := by kernel_rfl
 have hs : ∃ m, Tryz.prog.types.size = m + 1 := ⟨Tryz.prog.types.size - 1, by kernel_rfl⟩
 obtain ⟨m, hm⟩ := hs
 have hf : Value.formed Tryz.prog 43 (.agg #[.int .u64 a, .int .u64 b, .int .u64 c, .int .u64 d]) = true := by
  simp [Value.formed, hu, c1]
 unfold keyOf
 rw [hu]
 simp only [hk, hf, Bool.and_self, if_true, Value.cells, hm]
 simp [Program.keyLits, hu, c1, c2, Tryz.underlying42, ha, hb, hc, hd, List.range, List.range.loop, List.mapM_cons]
theorem wf_i64 {a : Int} (h0 : -9223372036854775808 ≤ a) (h1 : a ≤ 9223372036854775807) : (Lit.int .i64 a).wf = true := by
 simp [Lit.wf, IntKind.min, IntKind.max, IntKind.signed, IntKind.bits]; omega
theorem wf_u64 {a : Int} (h0 : 0 ≤ a) (h1 : a < 18446744073709551616) : (Lit.int .u64 a).wf = true := by
 simp [Lit.wf, IntKind.min, IntKind.max, IntKind.signed, IntKind.bits]; omega
end Go.Proofs.YtochckefnjobhaaGreatDoor
namespace Go.Proofs.X5
set_option linter.unusedVariables false
abbrev Key := Nat × Bool
def keyAt (c : List Nat) (h : Nat → Bool) (k : Nat) : Key := (c.getD k 0, h k)
def keysTo (c : List Nat) (h : Nat → Bool) : Nat → List Key
 | 0 => []
 | k + 1 => if keyAt c h k ∈ keysTo c h k then keysTo c h k else keysTo c h k ++ [keyAt c h k]
def num (c : List Nat) (h : Nat → Bool) (k : Nat) : Nat := (keysTo c h (k + 1)).idxOf (keyAt c h k)
def mixed (c : List Nat) (h : Nat → Bool) : Nat → List Nat
 | 0 => c
 | k + 1 => (mixed c h k).set k (num c h k)
def splitX (c : List Nat) (h : Nat → Bool) : List Nat := mixed c h 256
theorem mixed_len (c : List Nat) (h : Nat → Bool) : ∀ k, (mixed c h k).length = c.length
 | 0 => rfl
 | k + 1 => by rw [mixed, List.length_set, mixed_len c h k]
theorem mixed_at (c : List Nat) (h : Nat → Bool) : ∀ (k i : Nat), i < c.length → (mixed c h k)[i]? = some (if i < k then num c h i else c.getD i 0)
 | 0, i, hi => by simp [mixed, hi]
 | k + 1, i, hi => by
  rw [mixed, List.getElem?_set, mixed_at c h k i hi, mixed_len]
  by_cases e : k = i
  ·subst e; simp [hi]
  ·rw [if_neg e]
   by_cases h1 : i < k
   ·rw [if_pos h1, if_pos (by omega)]
   ·rw [if_neg h1, if_neg (by omega)]
theorem keys_in (c : List Nat) (h : Nat → Bool) (k : Nat) : keyAt c h k ∈ keysTo c h (k + 1) := by
 rw [keysTo]
 split
 ·assumption
 ·simp
theorem keys_pre (c : List Nat) (h : Nat → Bool) (k : Nat) : ∀ d, keysTo c h k <+: keysTo c h (k + d)
 | 0 => List.prefix_refl _
 | d + 1 => by
  refine (keys_pre c h k d).trans ?_
  rw [← Nat.add_assoc, keysTo]
  split
  ·exact List.prefix_refl _
  ·exact List.prefix_append _ _
theorem idx_pre {α : Type} [BEq α] [LawfulBEq α] {l m : List α} {x : α} (h : l <+: m) (hx : x ∈ l) : m.idxOf x = l.idxOf x := by
 obtain ⟨r, rfl⟩ := h
 rw [List.idxOf_append, if_pos hx]
theorem num_all (c : List Nat) (h : Nat → Bool) {k n : Nat} (hk : k < n) : num c h k = (keysTo c h n).idxOf (keyAt c h k) := by
 have := keys_pre c h (k + 1) (n - (k + 1))
 rw [show k + 1 + (n - (k + 1)) = n by omega] at this
 exact (idx_pre this (keys_in c h k)).symm
theorem key_in_all (c : List Nat) (h : Nat → Bool) {k n : Nat} (hk : k < n) : keyAt c h k ∈ keysTo c h n := by
 have := keys_pre c h (k + 1) (n - (k + 1))
 rw [show k + 1 + (n - (k + 1)) = n by omega] at this
 exact this.subset (keys_in c h k)
theorem keys_len (c : List Nat) (h : Nat → Bool) : ∀ k, (keysTo c h k).length ≤ k
 | 0 => Nat.le_refl _
 | k + 1 => by
  have := keys_len c h k
  rw [keysTo]
  split
  ·omega
  ·simp; omega
theorem idx_inj {α : Type} [BEq α] [LawfulBEq α] {l : List α} {x y : α} (hx : x ∈ l) (h : l.idxOf x = l.idxOf y) : x = y := by
 have h1 : l.idxOf x < l.length := List.idxOf_lt_length_of_mem hx
 have e1 : l[l.idxOf x]'h1 = x := List.getElem_idxOf h1
 have h2 : l.idxOf y < l.length := by rw [← h]; exact h1
 have e2 : l[l.idxOf y]'h2 = y := List.getElem_idxOf h2
 rw [← e1, ← e2]
 congr 1
theorem num_eq (c : List Nat) (h : Nat → Bool) {i j n : Nat} (hi : i < n) (hj : j < n) : num c h i = num c h j ↔ keyAt c h i = keyAt c h j := by
 rw [num_all c h hi, num_all c h hj]
 exact ⟨idx_inj (key_in_all c h hi), fun e => by rw [e]⟩
theorem split_at {c : List Nat} {h : Nat → Bool} (hc : c.length = 256) {i : Nat} (hi : i < 256) : (splitX c h).getD i 0 = num c h i := by
 unfold splitX
 rw [List.getD_eq_getElem?_getD, mixed_at c h 256 i (by omega), if_pos hi]; rfl
theorem split_len {c : List Nat} {h : Nat → Bool} (hc : c.length = 256) : (splitX c h).length = 256 := by unfold splitX; rw [mixed_len, hc]
def First (c : List Nat) : Prop := ∀ i, i < c.length → ∃ m, (∀ j, j < i → c.getD j 0 < m) ∧ (∀ v, v < m → ∃ j, j < i ∧ c.getD j 0 = v) ∧ c.getD i 0 ≤ m
theorem split_first {c : List Nat} {h : Nat → Bool} (hc : c.length = 256) : First (splitX c h) := by
 intro i hi
 have hl : (splitX c h).length = 256 := by unfold splitX; rw [mixed_len, hc]
 rw [hl] at hi
 refine ⟨(keysTo c h i).length, fun j hj => ?_, fun v hv => ?_, ?_⟩
 ·rw [split_at hc (by omega), num_all c h hj]
  exact List.idxOf_lt_length_of_mem (key_in_all c h hj)
 ·have key : ∀ n, n ≤ 256 → ∀ v (hv : v < (keysTo c h n).length), ∃ j, j < n ∧ (keysTo c h n).idxOf (keyAt c h j) = v := by
   intro n
   induction n with
   | zero => intro _ v hv; simp [keysTo] at hv
   | succ n ih =>
    intro hn v hv
    by_cases hm : keyAt c h n ∈ keysTo c h n
    ·have e : keysTo c h (n + 1) = keysTo c h n := by rw [keysTo, if_pos hm]
     rw [e] at hv ⊢
     obtain ⟨j, h1, h2⟩ := ih (by omega) v hv
     exact ⟨j, by omega, h2⟩
    ·have e : keysTo c h (n + 1) = keysTo c h n ++ [keyAt c h n] := by rw [keysTo, if_neg hm]
     by_cases hv2 : v < (keysTo c h n).length
     ·obtain ⟨j, h1, h2⟩ := ih (by omega) v hv2
      refine ⟨j, by omega, ?_⟩
      rw [e, List.idxOf_append, if_pos (key_in_all c h h1)]
      exact h2
     ·refine ⟨n, by omega, ?_⟩
      rw [e] at hv ⊢
      simp at hv
      rw [List.idxOf_append, if_neg hm]
      simp
      omega
  obtain ⟨j, h1, h2⟩ := key i (by omega) v hv
  exact ⟨j, h1, by rw [split_at hc (by omega), num_all c h h1]; exact h2⟩
 ·rw [split_at hc hi]
  unfold num
  rw [keysTo]
  split
  ·exact Nat.le_of_lt (List.idxOf_lt_length_of_mem (by assumption))
  ·rename_i hm
   rw [List.idxOf_append, if_neg hm]
   simp
theorem split_bound {c : List Nat} {h : Nat → Bool} (hc : c.length = 256) : ∀ x ∈ splitX c h, x < 256 := by
 intro x hx
 obtain ⟨i, hi, rfl⟩ := List.mem_iff_getElem.1 hx
 have hl : (splitX c h).length = 256 := by unfold splitX; rw [mixed_len, hc]
 have e : (splitX c h)[i] = num c h i := by
  have := split_at (h := h) hc (i := i) (by omega)
  rw [List.getD_eq_getElem?_getD, List.getElem?_eq_getElem hi] at this
  exact this
 rw [e, num_all c h (show i < 256 by omega)]
 exact Nat.lt_of_lt_of_le (List.idxOf_lt_length_of_mem (key_in_all c h (by omega))) (keys_len c h 256)
end Go.Proofs.X5
namespace Go.Proofs.X5
def fsX (c : List Nat) : Nat → List Nat
 | 0 => []
 | k + 1 => if c.getD k 0 = (fsX c k).length then fsX c k ++ [k] else fsX c k
theorem fs_len (c : List Nat) : ∀ k, (fsX c k).length ≤ k
 | 0 => Nat.le_refl _
 | k + 1 => by
  have := fs_len c k
  rw [fsX]
  split <;> simp <;> omega
theorem fs_lt (c : List Nat) : ∀ k, ∀ x ∈ fsX c k, x < k
 | 0, x, h => by cases h
 | k + 1, x, h => by
  rw [fsX] at h
  split at h
  ·rcases List.mem_append.1 h with h | h
   ·have := fs_lt c k x h; omega
   ·simp at h; omega
  ·have := fs_lt c k x h; omega
theorem fs_all {c : List Nat} (hf : First c) : ∀ k, k ≤ c.length → (∀ j, j < k → c.getD j 0 < (fsX c k).length) ∧ ∀ v, v < (fsX c k).length → ∃ i, (fsX c k)[v]? = some i ∧ i < k ∧ c.getD i 0 = v
 | 0, _ => ⟨fun j hj => by omega, fun v hv => by simp [fsX] at hv⟩
 | k + 1, hk => by
  obtain ⟨h1, h2⟩ := fs_all hf k (by omega)
  obtain ⟨m, m1, m2, m3⟩ := hf k (by omega)
  have e1 : m ≤ (fsX c k).length := by
   rcases Nat.lt_or_ge (fsX c k).length m with h | h
   ·obtain ⟨j, hj, e⟩ := m2 _ h
    have := h1 j hj
    omega
   ·exact h
  have e2 : (fsX c k).length ≤ m := by
   rcases Nat.lt_or_ge m (fsX c k).length with h | h
   ·obtain ⟨i, _, hi, e⟩ := h2 m h
    have := m1 i hi
    omega
   ·exact h
  rw [fsX]
  by_cases he : c.getD k 0 = (fsX c k).length
  ·rw [if_pos he]
   constructor
   ·intro j hj
    rw [List.length_append, List.length_singleton]
    by_cases hjk : j < k
    ·have := h1 j hjk; omega
    ·obtain rfl : j = k := by omega
     omega
   ·intro v hv
    rw [List.length_append, List.length_singleton] at hv
    by_cases hvl : v < (fsX c k).length
    ·obtain ⟨i, hi, h3, h4⟩ := h2 v hvl
     exact ⟨i, by rw [List.getElem?_append_left hvl]; exact hi, by omega, h4⟩
    ·obtain rfl : v = (fsX c k).length := by omega
     exact ⟨k, by rw [List.getElem?_append_right (Nat.le_refl _)]; simp, by omega, he⟩
  ·rw [if_neg he]
   constructor
   ·intro j hj
    by_cases hjk : j < k
    ·exact h1 j hjk
    ·obtain rfl : j = k := by omega
     omega
   ·intro v hv
    obtain ⟨i, hi, h3, h4⟩ := h2 v hv
    exact ⟨i, hi, by omega, h4⟩
end Go.Proofs.X5
namespace Go.Proofs.YtochckefnjobhaaGreatDoor
open Go Go.RowKit Go.Lib
open X3 (RX Pl)
set_option linter.unusedVariables false
set_option linter.unusedSimpArgs false
abbrev nvs (l : List Nat) : Array Value := (l.map fun (n : Nat) => Value.int .i64 (n : Int)).toArray
def kv (x : X5.Key) : Value := .agg #[.int .i64 (x.1 : Int), .int .i64 (if x.2 then 1 else 0)]
def kmap (ks : List X5.Key) : List (Value × Value) := ks.zipIdx.map fun p => (kv p.1, .int .i64 (p.2 : Int))
theorem kv_inj {x y : X5.Key} (h : kv x = kv y) : x = y := by
 obtain ⟨a, b⟩ := x
 obtain ⟨c, d⟩ := y
 simp [kv] at h
 cases b <;> cases d <;> simp_all <;> omega
theorem kmap_len (ks : List X5.Key) : (kmap ks).length = ks.length := by simp [kmap]
theorem kmap_mem {ks : List X5.Key} {x : X5.Key} (h : x ∈ ks) : (kv x, Value.int .i64 ((ks.idxOf x : Nat) : Int)) ∈ kmap ks := by
 refine List.mem_map.2 ⟨(x, ks.idxOf x), ?_, rfl⟩
 rw [List.mem_zipIdx_iff_getElem?]
 have h1 := List.idxOf_lt_length_of_mem h
 rw [List.getElem?_eq_getElem h1, List.getElem_idxOf h1]
theorem kmap_none {ks : List X5.Key} {x : X5.Key} (h : x ∉ ks) : ∀ p ∈ kmap ks, p.1 ≠ kv x := by
 intro p hp e
 obtain ⟨q, hq, rfl⟩ := List.mem_map.1 hp
 rw [List.mem_zipIdx_iff_getElem?] at hq
 have := kv_inj e
 subst this
 exact h (List.mem_of_getElem? hq)
theorem kmap_push (ks : List X5.Key) (x : X5.Key) : kmap (ks ++ [x]) = kmap ks ++ [(kv x, .int .i64 (ks.length : Int))] := by
 simp [kmap, List.zipIdx_append]
theorem nvs_set (l : List Nat) (k n : Nat) : (nvs l).setIfInBounds k (.int .i64 (n : Int)) = nvs (l.set k n) := by
 simp [nvs, List.map_set]
theorem grown_set (w : World) (b k : Nat) (v : Value) : w.grownBy (w.setCell ⟨b, k, none⟩ v) (some b) :=
 ⟨rfl, rfl, rfl, by simp, fun g _ hn => Below.heap_setCell w ⟨b, k, none⟩ v g (fun e => hn (by rw [e]))⟩
theorem zero3 (w : World) : (zeroValue 3).run Tryz.prog w = .ok (.int .i64 0) w := by kernel_rfl
set_option maxRecDepth 100000 in
set_option maxHeartbeats 8000000 in
theorem splitBy_any {S : Nat → Prop} (w : World) (r : RX) (v : Value) (hR : RepS S w r v) (cb : Nat) (c : List Nat) (hc : w.heap[cb]? = some (.cells (nvs c) 22 (0, 0))) (hl : c.length = 256) (hm : ∀ x ∈ c, x < 256) :
  Calls Tryz.prog 109 #[.pointer (some ⟨cb, 0, none⟩), v] w fun e w' => e = .returned (.tuple #[]) ∧ w'.heap[cb]? = some (.cells (nvs (X5.splitX c fun b => X3.hasX r b)) 22 (0, 0)) ∧ w.grownBy w' (some cb) := by
 obtain ⟨kd, x, y, z, u, o, nn, cc, rfl⟩ := hR.shape
 have HR := hid hR
 have HC := hid hc
 have HL := hid hl
 have HM := hid hm
 have hcb : cb < w.heap.size := (Array.getElem?_eq_some_iff.1 hc).1
 clear hR hc hl hm
 obtain ⟨w0, e0⟩ : ∃ w0, w.alloc (.cells #[.int .i64 kd, .int .u64 x, .int .u64 y, .int .u64 z, .int .u64 u, .slice o nn cc] 46) = w0 := ⟨_, rfl⟩
 obtain ⟨w1, e1⟩ : ∃ w1, w0.alloc (.map #[] 0) = w1 := ⟨_, rfl⟩
 have hb0 : Below w.heap.size w w0 := by rw [← e0]; exact (Below.refl _ _).alloc (Nat.le_refl _) _
 have hs0 : w0.heap.size = w.heap.size + 1 := by rw [← e0]; simp
 have hb1 : Below w0.heap.size w0 w1 := by rw [← e1]; exact (Below.refl _ _).alloc (Nat.le_refl _) _
 have hs1 : w1.heap.size = w0.heap.size + 1 := by rw [← e1]; simp
 have HX0 := hid (show w1.heap[w.heap.size]? = some (.cells #[.int .i64 kd, .int .u64 x, .int .u64 y, .int .u64 z, .int .u64 u, .slice o nn cc] 46 (0, 0)) from (hb1.block _ (by omega)).trans (by rw [← e0]; exact new_block _ _))
 have HM0 := hid (show MapIs Tryz.prog 80 w1 w0.heap.size [] from by rw [← e1]; exact MapIs.made w0)
 have HC0 := hid (show w1.heap[cb]? = some (.cells (nvs c) 22 (0, 0)) from (hb1.block _ (by omega)).trans ((hb0.block _ hcb).trans HC.out))
 have HG0 := hid (show w.grownBy w1 (some cb) from gr_below (hb0.trans (hb1.mono (by omega))))
 have HS := hid (And.intro hs0 hs1)
 obtain ⟨rb, hrb⟩ : ∃ rb, w.heap.size = rb := ⟨_, rfl⟩
 obtain ⟨mb, hmb⟩ : ∃ mb, w0.heap.size = mb := ⟨_, rfl⟩
 rw [hrb] at HX0
 rw [hmb] at HM0
 have HRB := hid hrb
 have HMB := hid hmb
 have hmm := @run_makeMap Tryz.prog
 clear hb0 hb1 hs0 hs1
 go_enter Tryz.func109, Tryz.ntmps109
 go_wp2_with fail
 clear e0 e1 hmm hrb hmb
 go_loopw [10] (fun t10 wr => ∃ k : Nat, k ≤ 256 ∧ t10 = .int .i64 (k : Int) ∧ Hid (wr.heap[cb]? = some (.cells (nvs (X5.mixed c (fun b => X3.hasX r b) k)) 22 (0, 0))) ∧ Hid (wr.heap[rb]? = some (.cells #[.int .i64 kd, .int .u64 x, .int .u64 y, .int .u64 z, .int .u64 u, .slice o nn cc] 46 (0, 0))) ∧
   Hid (MapIs Tryz.prog 80 wr mb (kmap (X5.keysTo c (fun b => X3.hasX r b) k))) ∧ Hid (w.grownBy wr (some cb)) ∧ Hid (w1.heap.size ≤ wr.heap.size)) (fun t10 _ => 256 - (RowKit.intOf t10).toNat)
 case atStart => exact ⟨0, by omega, rfl, HC0, HX0, HM0, HG0, hid (Nat.le_refl _)⟩
 case round =>
  obtain ⟨k, hk, rfl, HCr, HXr, HMr, HGr, HSr⟩ := hrel
  by_cases hlt : k < 256
  ·have h1 : (k : Int) < 256 := by omega
   have h2 : (0 : Int) ≤ (k : Int) := by omega
   obtain ⟨ck, hck⟩ : ∃ ck, c.getD k 0 = ck := ⟨_, rfl⟩
   have hck2 : ck < 256 := by
    rw [← hck, List.getD_eq_getElem?_getD, List.getElem?_eq_getElem (by rw [HL.out]; exact hlt)]
    exact HM.out _ (List.getElem_mem _)
   have hcell : wr.cell? ⟨cb, k, none⟩ = some (.int .i64 (ck : Int)) := by
    rw [Lib.cell_of_heap HCr.out]
    have := X5.mixed_at c (fun b => X3.hasX r b) k k (by rw [HL.out]; exact hlt)
    rw [if_neg (by omega), hck] at this
    simp [nvs, this]
   have HCK := hid hck
   have hcw : cb < wr.heap.size := (Array.getElem?_eq_some_iff.1 HCr.out).1
   have hrw : rb < wr.heap.size := (Array.getElem?_eq_some_iff.1 HXr.out).1
   have hmw : mb < wr.heap.size := HMr.out.lt
   clear hck
   obtain ⟨p0, p1, p2, p3, p4, p5⟩ := cells6 HXr.out
   have KH := hid (fun w2 => has_any HR.out k hlt w2)
   go_wp2_with fail
   clear p0 p1 p2 p3 p4 p5
   refine (KH.out _).mono ?_
   rintro e w3 ⟨rfl, hb3⟩
   obtain ⟨w2, e2⟩ : ∃ w2, wr.alloc (.cells #[.int .i64 (ck : Int), .int .i64 0] 80) = w2 := ⟨_, rfl⟩
   rw [e2] at hb3
   have hb2 : Below wr.heap.size wr w2 := by rw [← e2]; exact (Below.refl _ _).alloc (Nat.le_refl _) _
   have hs2 : wr.heap.size < w2.heap.size := by rw [← e2]; simp
   have HK2 := hid (show w2.heap[wr.heap.size]? = some (.cells #[.int .i64 (ck : Int), .int .i64 0] 80 (0, 0)) from by rw [← e2]; exact new_block _ _)
   have HX2 := hid ((hb2.block _ hrw).trans HXr.out)
   have HC2 := hid ((hb2.block _ hcw).trans HCr.out)
   have HM2 := hid (HMr.out.below hb2)
   have HG2 := hid (HGr.out.trans (gr_below hb2))
   clear hb2 e2
   have HK3 := hid ((hb3.block _ hs2).trans HK2.out)
   have HX3 := hid ((hb3.block _ (by omega)).trans HX2.out)
   have HC3 := hid ((hb3.block _ (by omega)).trans HC2.out)
   have HM3 := hid (HM2.out.below hb3)
   have HG3 := hid (HG2.out.trans (gr_below hb3))
   have hs3 := hb3.size
   have hS1 := HSr.out
   clear hb3
   cases hb : X3.hasX r k with
   | true =>
    by_cases hin : X5.keyAt c (fun b => X3.hasX r b) k ∈ X5.keysTo c (fun b => X3.hasX r b) k
    ·obtain ⟨w4, e4⟩ : ∃ w4, w3.setCell ⟨wr.heap.size, 1, none⟩ (.int .i64 1) = w4 := ⟨_, rfl⟩
     have hf3 := Lib.frozen_of_heap HK3.out 1
     have hq3 : w3.cell? ⟨wr.heap.size, 1, none⟩ = some (.int .i64 0) := by rw [Lib.cell_of_heap HK3.out]; rfl
     have hx4 : ∀ g, g ≠ wr.heap.size → w4.heap[g]? = w3.heap[g]? := fun g hg => by rw [← e4]; exact Below.heap_setCell w3 ⟨wr.heap.size, 1, none⟩ _ g hg
     have HK4 := hid (show w4.heap[wr.heap.size]? = some (.cells #[.int .i64 (ck : Int), .int .i64 1] 80 (0, 0)) from by rw [← e4, heap_setCell_same w3 wr.heap.size 1 _ 80 (.int .i64 1) HK3.out]; rfl)
     have HX4 := hid ((hx4 _ (by omega)).trans HX3.out)
     have HC4 := hid ((hx4 _ (by omega)).trans HC3.out)
     have HM4 := hid (HM3.out.kept (hx4 _ (by omega)))
     have hs4 : w4.heap.size = w3.heap.size := by rw [← e4]; simp
     have HG4 := hid (show w.grownBy w4 (some cb) from by
      have h5 : Below wr.heap.size w3 w4 := by rw [← e4]; exact (Below.refl _ _).setCell (p := ⟨wr.heap.size, 1, none⟩) (Nat.le_refl _) _
      have h6 := HG3.out
      exact ⟨h5.os.trans h6.os, h5.tape.trans h6.tape, h5.output.trans h6.output, Nat.le_trans h6.size h5.size, fun g hg hn => (h5.block g (Nat.lt_of_lt_of_le hg HGr.out.size)).trans (h6.block g hg hn)⟩)
     have q0 : w4.cell? ⟨wr.heap.size, 0, none⟩ = some (.int .i64 (ck : Int)) := by rw [Lib.cell_of_heap HK4.out]; rfl
     have q1 : w4.cell? ⟨wr.heap.size, 1, none⟩ = some (.int .i64 1) := by rw [Lib.cell_of_heap HK4.out]; rfl
     have hs34 : w3.heap.size ≤ w4.heap.size := by omega
     have HS4 := hid hs4
     clear hx4 hs4
     have HKey := hid (show X5.keyAt c (fun b => X3.hasX r b) k = (ck, true) from by unfold X5.keyAt; rw [HCK.out]; show (ck, X3.hasX r k) = _; rw [hb])
     obtain ⟨lx, hlx⟩ := key131 (ck : Int) 1 (wf_i64 (by omega) (by omega)) (by decide)
     have HLX := hid hlx
     clear hlx
     have HMem := hid (show (kv (ck, true), Value.int .i64 (((X5.keysTo c (fun b => X3.hasX r b) k).idxOf (ck, true) : Nat) : Int)) ∈ kmap (X5.keysTo c (fun b => X3.hasX r b) k) from kmap_mem (by rw [← HKey.out]; exact hin))
     have HN := hid (show X5.keysTo c (fun b => X3.hasX r b) (k + 1) = X5.keysTo c (fun b => X3.hasX r b) k ∧ X5.num c (fun b => X3.hasX r b) k = (X5.keysTo c (fun b => X3.hasX r b) k).idxOf (ck, true) from by
      have e : X5.keysTo c (fun b => X3.hasX r b) (k + 1) = X5.keysTo c (fun b => X3.hasX r b) k := by rw [X5.keysTo, if_pos hin]
      exact ⟨e, by unfold X5.num; rw [e, HKey.out]⟩)
     clear hin
     generalize (X5.keysTo c (fun b => X3.hasX r b) k).idxOf (ck, true) = n at *
     have hfr := Lib.frozen_of_heap HC4.out k
     have hcr : w4.cell? ⟨cb, k, none⟩ = some (.int .i64 (ck : Int)) := by
      rw [Lib.cell_of_heap HC4.out]
      have := X5.mixed_at c (fun b => X3.hasX r b) k k (by rw [HL.out]; exact hlt)
      rw [if_neg (by omega), HCK.out] at this
      simp [nvs, this]
     go_wp2_with (at_lookup; refine wpList_look_some rfl (.tmp 25) (.tmp 26) 180 rfl keyed131 Tryz.underlying180 rfl HM4.out (kv (ck, true)) (.int .i64 (n : Int)) lx rfl HLX.out HMem.out ?_)
     have hy : ∀ g, g ≠ cb → (w4.setCell ⟨cb, k, none⟩ (.int .i64 (n : Int))).heap[g]? = w4.heap[g]? := fun g hg => Below.heap_setCell w4 ⟨cb, k, none⟩ _ g hg
     refine ⟨⟨k + 1, by omega, rfl, hid ?_, hid ((hy _ (by have := HS.out; have := HRB.out; omega)).trans HX4.out), hid ?_, hid (HG4.out.trans (grown_set w4 cb k _)), hid (by rw [World.size_setCell]; omega)⟩, ?_⟩
     ·rw [heap_setCell_same w4 cb k _ 22 _ HC4.out, nvs_set, X5.mixed, HN.out.2]
     ·rw [HN.out.1]
      exact HM4.out.kept (hy _ (by have := HS.out; have := HRB.out; have := HMB.out; omega))
     ·show 256 - ((k : Int) + 1).toNat < 256 - ((k : Int)).toNat
      omega
    ·obtain ⟨w4, e4⟩ : ∃ w4, w3.setCell ⟨wr.heap.size, 1, none⟩ (.int .i64 1) = w4 := ⟨_, rfl⟩
     have hf3 := Lib.frozen_of_heap HK3.out 1
     have hq3 : w3.cell? ⟨wr.heap.size, 1, none⟩ = some (.int .i64 0) := by rw [Lib.cell_of_heap HK3.out]; rfl
     have hx4 : ∀ g, g ≠ wr.heap.size → w4.heap[g]? = w3.heap[g]? := fun g hg => by rw [← e4]; exact Below.heap_setCell w3 ⟨wr.heap.size, 1, none⟩ _ g hg
     have HK4 := hid (show w4.heap[wr.heap.size]? = some (.cells #[.int .i64 (ck : Int), .int .i64 1] 80 (0, 0)) from by rw [← e4, heap_setCell_same w3 wr.heap.size 1 _ 80 (.int .i64 1) HK3.out]; rfl)
     have HX4 := hid ((hx4 _ (by omega)).trans HX3.out)
     have HC4 := hid ((hx4 _ (by omega)).trans HC3.out)
     have HM4 := hid (HM3.out.kept (hx4 _ (by omega)))
     have hs4 : w4.heap.size = w3.heap.size := by rw [← e4]; simp
     have HG4 := hid (show w.grownBy w4 (some cb) from by
      have h5 : Below wr.heap.size w3 w4 := by rw [← e4]; exact (Below.refl _ _).setCell (p := ⟨wr.heap.size, 1, none⟩) (Nat.le_refl _) _
      have h6 := HG3.out
      exact ⟨h5.os.trans h6.os, h5.tape.trans h6.tape, h5.output.trans h6.output, Nat.le_trans h6.size h5.size, fun g hg hn => (h5.block g (Nat.lt_of_lt_of_le hg HGr.out.size)).trans (h6.block g hg hn)⟩)
     have q0 : w4.cell? ⟨wr.heap.size, 0, none⟩ = some (.int .i64 (ck : Int)) := by rw [Lib.cell_of_heap HK4.out]; rfl
     have q1 : w4.cell? ⟨wr.heap.size, 1, none⟩ = some (.int .i64 1) := by rw [Lib.cell_of_heap HK4.out]; rfl
     have hs34 : w3.heap.size ≤ w4.heap.size := by omega
     have HS4 := hid hs4
     clear hx4 hs4
     have HKey := hid (show X5.keyAt c (fun b => X3.hasX r b) k = (ck, true) from by unfold X5.keyAt; rw [HCK.out]; show (ck, X3.hasX r k) = _; rw [hb])
     obtain ⟨lx, hlx⟩ := key131 (ck : Int) 1 (wf_i64 (by omega) (by omega)) (by decide)
     have HLX := hid hlx
     clear hlx
     have HNone := hid (kmap_none (ks := X5.keysTo c (fun b => X3.hasX r b) k) (x := (ck, true)) (by rw [← HKey.out]; exact hin))
     have HN := hid (show X5.keysTo c (fun b => X3.hasX r b) (k + 1) = X5.keysTo c (fun b => X3.hasX r b) k ++ [(ck, true)] ∧ X5.num c (fun b => X3.hasX r b) k = (X5.keysTo c (fun b => X3.hasX r b) k).length from by
      have e : X5.keysTo c (fun b => X3.hasX r b) (k + 1) = X5.keysTo c (fun b => X3.hasX r b) k ++ [(ck, true)] := by rw [X5.keysTo, if_neg hin, HKey.out]
      refine ⟨e, ?_⟩
      unfold X5.num
      rw [e, HKey.out, List.idxOf_append, if_neg (by rw [← HKey.out]; exact hin)]
      simp)
     have HLen := hid (kmap_len (X5.keysTo c (fun b => X3.hasX r b) k))
     have hnl := X5.keys_len c (fun b => X3.hasX r b) k
     clear hin
     obtain ⟨n, hn⟩ : ∃ n, (X5.keysTo c (fun b => X3.hasX r b) k).length = n := ⟨_, rfl⟩
     rw [hn] at HN HLen hnl
     have HNN := hid hn
     clear hn
     go_wp2_with (first | (at_lookup; refine wpList_look_none rfl (.tmp 25) (.tmp 26) 180 rfl keyed131 Tryz.underlying180 rfl HM4.out (kv (ck, true)) (.int .i64 0) lx rfl HLX.out (zero3 _) HNone.out ?_) | (at_len; refine wpList_mlen rfl (.tmp 32) 180 rfl Tryz.underlying180 rfl HM4.out n HLen.out ?_) | (at_mapUpdate; refine wpList_put rfl (.tmp 34) (.tmp 35) (.tmp 36) 180 (.inl rfl) keyed131 Tryz.underlying180 rfl HM4.out (kv (ck, true)) (.int .i64 (n : Int)) lx rfl rfl HLX.out HNone.out ?_))
     intro w5 hmap hgr
     have HMap := hid hmap
     have HGr5 := hid hgr
     have hs5 := hgr.size
     have HC5 := hid ((hgr.block _ (by omega) (by have := HS.out; have := HMB.out; intro e; injection e; omega)).trans HC4.out)
     have HX5 := hid ((hgr.block _ (by omega) (by have := HS.out; have := HMB.out; have := HRB.out; intro e; injection e; omega)).trans HX4.out)
     clear hmap hgr
     have hfr := Lib.frozen_of_heap HC5.out k
     have hcr : w5.cell? ⟨cb, k, none⟩ = some (.int .i64 (ck : Int)) := by
      rw [Lib.cell_of_heap HC5.out]
      have := X5.mixed_at c (fun b => X3.hasX r b) k k (by rw [HL.out]; exact hlt)
      rw [if_neg (by omega), HCK.out] at this
      simp [nvs, this]
     go_wp2_with fail
     have hy : ∀ g, g ≠ cb → (w5.setCell ⟨cb, k, none⟩ (.int .i64 (n : Int))).heap[g]? = w5.heap[g]? := fun g hg => Below.heap_setCell w5 ⟨cb, k, none⟩ _ g hg
     refine ⟨⟨k + 1, by omega, rfl, hid ?_, hid ((hy _ (by have := HS.out; have := HRB.out; omega)).trans HX5.out), hid ?_, hid ?_, hid (by rw [World.size_setCell]; omega)⟩, ?_⟩
     ·rw [heap_setCell_same w5 cb k _ 22 _ HC5.out, nvs_set, X5.mixed, HN.out.2]
     ·rw [HN.out.1, kmap_push, HNN.out]
      exact HMap.out.kept (hy _ (by have := HS.out; have := HRB.out; have := HMB.out; omega))
     ·have h5 := HGr5.out
      have h6 := HG4.out
      refine World.grownBy.trans ⟨h5.os.trans h6.os, h5.tape.trans h6.tape, h5.output.trans h6.output, Nat.le_trans h6.size h5.size, fun g hg hn => (h5.block g (Nat.lt_of_lt_of_le hg h6.size) (by have := HS.out; have := HMB.out; have := HRB.out; intro e; injection e; omega)).trans (h6.block g hg hn)⟩ (grown_set w5 cb k _)
     ·show 256 - ((k : Int) + 1).toNat < 256 - ((k : Int)).toNat
      omega
   | false =>
    by_cases hin : X5.keyAt c (fun b => X3.hasX r b) k ∈ X5.keysTo c (fun b => X3.hasX r b) k
    ·have q0 : w3.cell? ⟨wr.heap.size, 0, none⟩ = some (.int .i64 (ck : Int)) := by rw [Lib.cell_of_heap HK3.out]; rfl
     have q1 : w3.cell? ⟨wr.heap.size, 1, none⟩ = some (.int .i64 0) := by rw [Lib.cell_of_heap HK3.out]; rfl
     have hs34 : w3.heap.size ≤ w3.heap.size := Nat.le_refl _
     have HC4 := HC3
     have HX4 := HX3
     have HM4 := HM3
     have HG4 := HG3
     have HKey := hid (show X5.keyAt c (fun b => X3.hasX r b) k = (ck, false) from by unfold X5.keyAt; rw [HCK.out]; show (ck, X3.hasX r k) = _; rw [hb])
     obtain ⟨lx, hlx⟩ := key131 (ck : Int) 0 (wf_i64 (by omega) (by omega)) (by decide)
     have HLX := hid hlx
     clear hlx
     have HMem := hid (show (kv (ck, false), Value.int .i64 (((X5.keysTo c (fun b => X3.hasX r b) k).idxOf (ck, false) : Nat) : Int)) ∈ kmap (X5.keysTo c (fun b => X3.hasX r b) k) from kmap_mem (by rw [← HKey.out]; exact hin))
     have HN := hid (show X5.keysTo c (fun b => X3.hasX r b) (k + 1) = X5.keysTo c (fun b => X3.hasX r b) k ∧ X5.num c (fun b => X3.hasX r b) k = (X5.keysTo c (fun b => X3.hasX r b) k).idxOf (ck, false) from by
      have e : X5.keysTo c (fun b => X3.hasX r b) (k + 1) = X5.keysTo c (fun b => X3.hasX r b) k := by rw [X5.keysTo, if_pos hin]
      exact ⟨e, by unfold X5.num; rw [e, HKey.out]⟩)
     clear hin
     generalize (X5.keysTo c (fun b => X3.hasX r b) k).idxOf (ck, false) = n at *
     have hfr := Lib.frozen_of_heap HC4.out k
     have hcr : w3.cell? ⟨cb, k, none⟩ = some (.int .i64 (ck : Int)) := by
      rw [Lib.cell_of_heap HC4.out]
      have := X5.mixed_at c (fun b => X3.hasX r b) k k (by rw [HL.out]; exact hlt)
      rw [if_neg (by omega), HCK.out] at this
      simp [nvs, this]
     go_wp2_with (at_lookup; refine wpList_look_some rfl (.tmp 25) (.tmp 26) 180 rfl keyed131 Tryz.underlying180 rfl HM4.out (kv (ck, false)) (.int .i64 (n : Int)) lx rfl HLX.out HMem.out ?_)
     have hy : ∀ g, g ≠ cb → (w3.setCell ⟨cb, k, none⟩ (.int .i64 (n : Int))).heap[g]? = w3.heap[g]? := fun g hg => Below.heap_setCell w3 ⟨cb, k, none⟩ _ g hg
     refine ⟨⟨k + 1, by omega, rfl, hid ?_, hid ((hy _ (by have := HS.out; have := HRB.out; omega)).trans HX4.out), hid ?_, hid (HG4.out.trans (grown_set w3 cb k _)), hid (by rw [World.size_setCell]; omega)⟩, ?_⟩
     ·rw [heap_setCell_same w3 cb k _ 22 _ HC4.out, nvs_set, X5.mixed, HN.out.2]
     ·rw [HN.out.1]
      exact HM4.out.kept (hy _ (by have := HS.out; have := HRB.out; have := HMB.out; omega))
     ·show 256 - ((k : Int) + 1).toNat < 256 - ((k : Int)).toNat
      omega
    ·have q0 : w3.cell? ⟨wr.heap.size, 0, none⟩ = some (.int .i64 (ck : Int)) := by rw [Lib.cell_of_heap HK3.out]; rfl
     have q1 : w3.cell? ⟨wr.heap.size, 1, none⟩ = some (.int .i64 0) := by rw [Lib.cell_of_heap HK3.out]; rfl
     have hs34 : w3.heap.size ≤ w3.heap.size := Nat.le_refl _
     have HC4 := HC3
     have HX4 := HX3
     have HM4 := HM3
     have HG4 := HG3
     have HKey := hid (show X5.keyAt c (fun b => X3.hasX r b) k = (ck, false) from by unfold X5.keyAt; rw [HCK.out]; show (ck, X3.hasX r k) = _; rw [hb])
     obtain ⟨lx, hlx⟩ := key131 (ck : Int) 0 (wf_i64 (by omega) (by omega)) (by decide)
     have HLX := hid hlx
     clear hlx
     have HNone := hid (kmap_none (ks := X5.keysTo c (fun b => X3.hasX r b) k) (x := (ck, false)) (by rw [← HKey.out]; exact hin))
     have HN := hid (show X5.keysTo c (fun b => X3.hasX r b) (k + 1) = X5.keysTo c (fun b => X3.hasX r b) k ++ [(ck, false)] ∧ X5.num c (fun b => X3.hasX r b) k = (X5.keysTo c (fun b => X3.hasX r b) k).length from by
      have e : X5.keysTo c (fun b => X3.hasX r b) (k + 1) = X5.keysTo c (fun b => X3.hasX r b) k ++ [(ck, false)] := by rw [X5.keysTo, if_neg hin, HKey.out]
      refine ⟨e, ?_⟩
      unfold X5.num
      rw [e, HKey.out, List.idxOf_append, if_neg (by rw [← HKey.out]; exact hin)]
      simp)
     have HLen := hid (kmap_len (X5.keysTo c (fun b => X3.hasX r b) k))
     have hnl := X5.keys_len c (fun b => X3.hasX r b) k
     clear hin
     obtain ⟨n, hn⟩ : ∃ n, (X5.keysTo c (fun b => X3.hasX r b) k).length = n := ⟨_, rfl⟩
     rw [hn] at HN HLen hnl
     have HNN := hid hn
     clear hn
     go_wp2_with (first | (at_lookup; refine wpList_look_none rfl (.tmp 25) (.tmp 26) 180 rfl keyed131 Tryz.underlying180 rfl HM4.out (kv (ck, false)) (.int .i64 0) lx rfl HLX.out (zero3 _) HNone.out ?_) | (at_len; refine wpList_mlen rfl (.tmp 32) 180 rfl Tryz.underlying180 rfl HM4.out n HLen.out ?_) | (at_mapUpdate; refine wpList_put rfl (.tmp 34) (.tmp 35) (.tmp 36) 180 (.inl rfl) keyed131 Tryz.underlying180 rfl HM4.out (kv (ck, false)) (.int .i64 (n : Int)) lx rfl rfl HLX.out HNone.out ?_))
     intro w5 hmap hgr
     have HMap := hid hmap
     have HGr5 := hid hgr
     have hs5 := hgr.size
     have HC5 := hid ((hgr.block _ (by omega) (by have := HS.out; have := HMB.out; intro e; injection e; omega)).trans HC4.out)
     have HX5 := hid ((hgr.block _ (by omega) (by have := HS.out; have := HMB.out; have := HRB.out; intro e; injection e; omega)).trans HX4.out)
     clear hmap hgr
     have hfr := Lib.frozen_of_heap HC5.out k
     have hcr : w5.cell? ⟨cb, k, none⟩ = some (.int .i64 (ck : Int)) := by
      rw [Lib.cell_of_heap HC5.out]
      have := X5.mixed_at c (fun b => X3.hasX r b) k k (by rw [HL.out]; exact hlt)
      rw [if_neg (by omega), HCK.out] at this
      simp [nvs, this]
     go_wp2_with fail
     have hy : ∀ g, g ≠ cb → (w5.setCell ⟨cb, k, none⟩ (.int .i64 (n : Int))).heap[g]? = w5.heap[g]? := fun g hg => Below.heap_setCell w5 ⟨cb, k, none⟩ _ g hg
     refine ⟨⟨k + 1, by omega, rfl, hid ?_, hid ((hy _ (by have := HS.out; have := HRB.out; omega)).trans HX5.out), hid ?_, hid ?_, hid (by rw [World.size_setCell]; omega)⟩, ?_⟩
     ·rw [heap_setCell_same w5 cb k _ 22 _ HC5.out, nvs_set, X5.mixed, HN.out.2]
     ·rw [HN.out.1, kmap_push, HNN.out]
      exact HMap.out.kept (hy _ (by have := HS.out; have := HRB.out; have := HMB.out; omega))
     ·have h5 := HGr5.out
      have h6 := HG4.out
      refine World.grownBy.trans ⟨h5.os.trans h6.os, h5.tape.trans h6.tape, h5.output.trans h6.output, Nat.le_trans h6.size h5.size, fun g hg hn => (h5.block g (Nat.lt_of_lt_of_le hg h6.size) (by have := HS.out; have := HMB.out; have := HRB.out; intro e; injection e; omega)).trans (h6.block g hg hn)⟩ (grown_set w5 cb k _)
     ·show 256 - ((k : Int) + 1).toNat < 256 - ((k : Int)).toNat
      omega
  ·have h1 : ¬ (k : Int) < 256 := by omega
   obtain rfl : k = 256 := by omega
   go_wp2_with fail
   go_end0
   exact ⟨rfl, HCr.out, HGr.out⟩
end Go.Proofs.YtochckefnjobhaaGreatDoor
namespace Go.Proofs.X5
open Go.Proofs.X3 (RX)
set_option linter.unusedVariables false
abbrev W4 := Nat × Nat × Nat × Nat
abbrev St := List Nat × List W4
def kidsX : RX → List RX
 | .cat l => l
 | .alt l => l
 | .star r => [r]
 | _ => []
def step : RX → St → St
 | .bytes x y z u, st => if (x, y, z, u) ∈ st.2 then st else (splitX st.1 (fun b => X3.hasX (.bytes x y z u) b), st.2 ++ [(x, y, z, u)])
 | _, st => st
mutual
def spX : RX → St → St
 | .bytes x y z u, st => step (.bytes x y z u) st
 | .cat l, st => spL l st
 | .alt l, st => spL l st
 | .star r, st => spX r st
 | .empty, st => st
def spL : List RX → St → St
 | [], st => st
 | r :: l, st => spL l (spX r st)
end
theorem spX_eq (r : RX) (st : St) : spX r st = spL (kidsX r) (step r st) := by
 cases r <;> simp [spX, kidsX, spL, step]
theorem spL_app : ∀ (l l' : List RX) (st : St), spL (l ++ l') st = spL l' (spL l st)
 | [], l', st => by simp [spL]
 | r :: l, l', st => by rw [List.cons_append, spL, spL, spL_app l l']
theorem spL_take (l : List RX) (k : Nat) (hk : k < l.length) (st : St) : spL (l.take (k + 1)) st = spL (kidsX l[k]) (step l[k] (spL (l.take k) st)) := by
 rw [List.take_add_one, List.getElem?_eq_getElem hk, spL_app, ← spX_eq]
 simp [spL]
def Good (st : St) : Prop := st.1.length = 256 ∧ ∀ x ∈ st.1, x < 256
theorem good_split {c : List Nat} {l : List W4} {h : Nat → Bool} (hc : c.length = 256) : Good (splitX c h, l) := by
 have h1 := split_len (h := h) hc
 have h2 := split_bound (h := h) hc
 generalize splitX c h = d at *
 exact ⟨h1, h2⟩
theorem step_good {r : RX} {st : St} (h : Good st) : Good (step r st) := by
 cases r with
 | bytes x y z u =>
  by_cases hm : (x, y, z, u) ∈ st.2
  ·rw [show step (.bytes x y z u) st = st from if_pos hm]; exact h
  ·rw [show step (.bytes x y z u) st = (splitX st.1 (fun b => X3.hasX (.bytes x y z u) b), st.2 ++ [(x, y, z, u)]) from if_neg hm]; exact good_split h.1
 | empty => exact h
 | cat l => exact h
 | alt l => exact h
 | star r => exact h
mutual
theorem spX_good : ∀ (r : RX) {st : St}, Good st → Good (spX r st)
 | .bytes x y z u, st, h => step_good h
 | .cat l, st, h => spL_good l h
 | .alt l, st, h => spL_good l h
 | .star r, st, h => spX_good r h
 | .empty, st, h => h
theorem spL_good : ∀ (l : List RX) {st : St}, Good st → Good (spL l st)
 | [], st, h => h
 | r :: l, st, h => spL_good l (spX_good r h)
end
theorem step_in {r : RX} {st : St} {x y z u : Nat} (hr : r = .bytes x y z u) (hm : (x, y, z, u) ∈ st.2) : step r st = st := by
 subst hr
 exact if_pos hm
theorem step_out {r : RX} {st : St} {x y z u : Nat} (hr : r = .bytes x y z u) (hm : (x, y, z, u) ∉ st.2) : step r st = (splitX st.1 (fun b => X3.hasX r b), st.2 ++ [(x, y, z, u)]) := by
 subst hr
 exact if_neg hm
theorem kids_size (r : RX) : X3.sizeL (kidsX r) < r.size := by
 cases r <;> simp [kidsX, X3.sizeL, X3.RX.size]
end Go.Proofs.X5
namespace Go.Proofs.YtochckefnjobhaaGreatDoor
open Go Go.RowKit Go.Lib
open X3 (RX Pl)
set_option linter.unusedVariables false
set_option linter.unusedSimpArgs false
theorem node_shape {S : Nat → Prop} {w : World} {r : RX} {v : Value} (h : RepS S w r v) : ∃ (kd : Int) (x y z u : Nat) (ko : Option Addr) (kn kc : Nat), v = nodeV kd x y z u (.slice ko kn kc) ∧
  (x < 2 ^ 64 ∧ y < 2 ^ 64 ∧ z < 2 ^ 64 ∧ u < 2 ^ 64) ∧ RowR S w (.slice ko kn kc) (X5.kidsX r) ∧ ((kd = 1 ∧ r = .bytes x y z u) ∨ (kd ≠ 1 ∧ ∀ st, X5.step r st = st)) := by
 cases h with
 | empty => exact ⟨0, 0, 0, 0, 0, none, 0, 0, rfl, by decide, ⟨.inl ⟨rfl, rfl⟩⟩, .inr ⟨by decide, fun st => rfl⟩⟩
 | bytes x y z u hx hy hz hu => exact ⟨1, x, y, z, u, none, 0, 0, rfl, ⟨hx, hy, hz, hu⟩, ⟨.inl ⟨rfl, rfl⟩⟩, .inl ⟨rfl, rfl⟩⟩
 | cat l g cap h hc hg hw h0 => exact ⟨2, 0, 0, 0, 0, _, _, _, rfl, by decide, ⟨.inr ⟨g, cap, rfl, hg, hw, hc, h⟩⟩, .inr ⟨by decide, fun st => rfl⟩⟩
 | alt l g cap h hc hg hw h0 => exact ⟨3, 0, 0, 0, 0, _, _, _, rfl, by decide, ⟨.inr ⟨g, cap, rfl, hg, hw, hc, h⟩⟩, .inr ⟨by decide, fun st => rfl⟩⟩
 | star r g cap h hc hg hw => exact ⟨4, 0, 0, 0, 0, _, _, _, rfl, by decide, ⟨.inr ⟨g, cap, rfl, hg, hw, hc, h⟩⟩, .inr ⟨by decide, fun st => rfl⟩⟩
def wv (q : X5.W4) : Value := .agg #[.int .u64 (q.1 : Int), .int .u64 (q.2.1 : Int), .int .u64 (q.2.2.1 : Int), .int .u64 (q.2.2.2 : Int)]
def smap (ks : List X5.W4) : List (Value × Value) := ks.zipIdx.map fun p => (wv p.1, .int .i64 (p.2 : Int))
theorem wv_inj {x y : X5.W4} (h : wv x = wv y) : x = y := by
 obtain ⟨a, b, c, d⟩ := x
 obtain ⟨a', b', c', d'⟩ := y
 simp [wv] at h
 simp only [Prod.mk.injEq]
 omega
theorem smap_len (ks : List X5.W4) : (smap ks).length = ks.length := by simp [smap]
theorem smap_mem {ks : List X5.W4} {x : X5.W4} (h : x ∈ ks) : (wv x, Value.int .i64 ((ks.idxOf x : Nat) : Int)) ∈ smap ks := by
 refine List.mem_map.2 ⟨(x, ks.idxOf x), ?_, rfl⟩
 rw [List.mem_zipIdx_iff_getElem?]
 have h1 := List.idxOf_lt_length_of_mem h
 rw [List.getElem?_eq_getElem h1, List.getElem_idxOf h1]
theorem smap_none {ks : List X5.W4} {x : X5.W4} (h : x ∉ ks) : ∀ p ∈ smap ks, p.1 ≠ wv x := by
 intro p hp e
 obtain ⟨q, hq, rfl⟩ := List.mem_map.1 hp
 rw [List.mem_zipIdx_iff_getElem?] at hq
 have := wv_inj e
 subst this
 exact h (List.mem_of_getElem? hq)
theorem smap_push (ks : List X5.W4) (x : X5.W4) : smap (ks ++ [x]) = smap ks ++ [(wv x, .int .i64 (ks.length : Int))] := by
 simp [smap, List.zipIdx_append]
structure Gr2 (a b : Nat) (w w' : World) : Prop where
 os : w'.os = w.os
 tape : w'.tape = w.tape
 output : w'.output = w.output
 size : w.heap.size ≤ w'.heap.size
 block : ∀ g, g < w.heap.size → g ≠ a → g ≠ b → w'.heap[g]? = w.heap[g]?
theorem Gr2.refl (a b : Nat) (w : World) : Gr2 a b w w := ⟨rfl, rfl, rfl, Nat.le_refl _, fun _ _ _ _ => rfl⟩
theorem Gr2.trans {a b : Nat} {w w' w'' : World} (h : Gr2 a b w w') (k : Gr2 a b w' w'') : Gr2 a b w w'' :=
 ⟨k.os.trans h.os, k.tape.trans h.tape, k.output.trans h.output, Nat.le_trans h.size k.size, fun g hg ha hb => (k.block g (Nat.lt_of_lt_of_le hg h.size) ha hb).trans (h.block g hg ha hb)⟩
theorem Gr2.of_below {a b : Nat} {w w' : World} (h : Below w.heap.size w w') : Gr2 a b w w' := ⟨h.os, h.tape, h.output, h.size, fun g hg _ _ => h.block g hg⟩
theorem Gr2.of_left {a b : Nat} {w w' : World} (h : w.grownBy w' (some a)) : Gr2 a b w w' := ⟨h.os, h.tape, h.output, h.size, fun g hg ha _ => h.block g hg (fun e => ha (by injection e))⟩
theorem Gr2.of_right {a b : Nat} {w w' : World} (h : w.grownBy w' (some b)) : Gr2 a b w w' := ⟨h.os, h.tape, h.output, h.size, fun g hg _ hb => h.block g hg (fun e => hb (by injection e))⟩
theorem Gr2.keepS {S : Nat → Prop} {a b : Nat} {w w' : World} (h : Gr2 a b w w') (hS : ∀ g, S g → g ≠ a ∧ g ≠ b) : KeepS S w w' := ⟨h.size, fun g hg hl => h.block g hl (hS g hg).1 (hS g hg).2⟩
end Go.Proofs.YtochckefnjobhaaGreatDoor
namespace Go.Proofs.YtochckefnjobhaaGreatDoor
open Go Go.RowKit Go.Lib
open X3 (RX Pl)
set_option linter.unusedVariables false
set_option linter.unusedSimpArgs false
structure SplitP (cb mb : Nat) (w : World) (st : X5.St) (w' : World) : Prop where
 cls : w'.heap[cb]? = some (.cells (nvs st.1) 22 (0, 0))
 seen : MapIs Tryz.prog 43 w' mb (smap st.2)
 gr : Gr2 cb mb w w'
set_option maxRecDepth 100000 in
set_option maxHeartbeats 16000000 in
theorem split_any (S : Nat → Prop) (cb mb : Nat) (hS : ∀ g, S g → g ≠ cb ∧ g ≠ mb) (hne : cb ≠ mb) : ∀ (n : Nat) (w : World) (l : List RX) (v : Value) (st : X5.St), X3.sizeL l ≤ n → n < 4611686018427387904 → RowR S w v l → X5.Good st → SplitP cb mb w st w →
  Calls Tryz.prog 97 #[.pointer (some ⟨cb, 0, none⟩), .map (some mb), v] w fun e w' => e = .returned (.tuple #[]) ∧ SplitP cb mb w (X5.spL l st) w' := by
 intro n
 induction n with
 | zero =>
  intro w l v st hn _ hR hg hP
  have hl := length_le_sizeL l
  obtain rfl : l = [] := List.eq_nil_of_length_eq_zero (by omega)
  obtain ⟨vo, vc, rfl⟩ := hR.shape
  have HP := hid hP
  clear hR hP hl hn hg
  go_enter Tryz.func97, Tryz.ntmps97
  go_wp2_with fail
  go_loopw [12] (fun t12 wr => t12 = .int .i64 0 ∧ wr = w) (fun _ _ => 0)
  case atStart => exact ⟨rfl, rfl⟩
  case round =>
   obtain ⟨rfl, rfl⟩ := hrel
   go_wp2_with fail
   go_end0
   exact ⟨rfl, HP.out⟩
 | succ n ih =>
  intro w l v st hn hnb hR hg hP
  obtain ⟨vo, vc, rfl⟩ := hR.shape
  have hll := length_le_sizeL l
  have IH := hid ih
  have HRow := hid hR
  have HG := hid hg
  have HP := hid hP
  have HSS := hid hS
  have HNE := hid hne
  have HN := hid hn
  clear ih hR hg hP hS hne hn
  go_enter Tryz.func97, Tryz.ntmps97
  go_wp2_with fail
  go_loopw [12] (fun t12 wr => ∃ k : Nat, k ≤ l.length ∧ t12 = .int .i64 (k : Int) ∧ Hid (SplitP cb mb w (X5.spL (l.take k) st) wr)) (fun t12 _ => l.length - (RowKit.intOf t12).toNat)
  case atStart => exact ⟨0, Nat.zero_le _, rfl, hid (by rw [List.take_zero]; exact HP.out)⟩
  case round =>
   obtain ⟨k, hk, rfl, HQ⟩ := hrel
   by_cases hlt : k < l.length
   ·have h1 : (k : Int) < (l.length : Int) := by omega
    have h2 : (0 : Int) ≤ (k : Int) := by omega
    have HT := hid (X5.spL_take l k hlt st)
    have hlb : l.length ≤ 4611686018427387904 := by have := HN.out; omega
    have HGk := hid (X5.spL_good (l.take k) HG.out)
    have hsz := size_in l k hlt
    have hks := X5.kids_size l[k]
    have HSZ := hid (show X3.sizeL (X5.kidsX l[k]) ≤ n from by have := HN.out; omega)
    have hRk := HRow.out.kept (HQ.out.gr.keepS HSS.out)
    obtain ⟨g, kd, x', y', z', u', ko, kn, kc, rfl, hRr, c0, c1, c2, c3, c4, c5⟩ := hRk.at_ k hlt
    obtain ⟨kd2, x, y, z, u, ko2, kn2, kc2, ev, hwd, hkids, hkind⟩ := node_shape hRr
    simp only [nodeV, Value.agg.injEq, Array.mk.injEq, List.cons.injEq, Value.int.injEq, Value.slice.injEq, true_and, and_true] at ev
    obtain ⟨rfl, rfl, rfl, rfl, rfl, rfl, rfl, rfl⟩ := ev
    have HRr := hid hRr
    have HK := hid hkids
    have hcw : cb < wr.heap.size := (Array.getElem?_eq_some_iff.1 HQ.out.cls).1
    have hmw : mb < wr.heap.size := HQ.out.seen.lt
    obtain ⟨lx, hlx⟩ := key36 (x : Int) (y : Int) (z : Int) (u : Int) (wf_u64 (by omega) (by omega)) (wf_u64 (by omega) (by omega)) (wf_u64 (by omega) (by omega)) (wf_u64 (by omega) (by omega))
    have HLX := hid hlx
    have hgw : g < wr.heap.size := by
     have := block_lt c0
     exact this
    obtain ⟨wa, ea⟩ : ∃ wa, wr.alloc (.cells #[.int .i64 kd, .int .u64 (x : Int), .int .u64 (y : Int), .int .u64 (z : Int), .int .u64 (u : Int), .slice ko kn kc] 46) = wa := ⟨_, rfl⟩
    have hba : Below wr.heap.size wr wa := by rw [← ea]; exact (Below.refl _ _).alloc (Nat.le_refl _) _
    have hna : wa.heap[wr.heap.size]? = some (.cells #[.int .i64 kd, .int .u64 (x : Int), .int .u64 (y : Int), .int .u64 (z : Int), .int .u64 (u : Int), .slice ko kn kc] 46 (0, 0)) := by rw [← ea]; exact new_block _ _
    have HNA := hid hna
    have HMA := hid (HQ.out.seen.below hba)
    have HCA := hid ((hba.block _ hcw).trans HQ.out.cls)
    have HGA := hid (HQ.out.gr.trans (Gr2.of_below hba))
    have HKA := hid (HK.out.kept (keepS_below hba))
    have HRA := hid (HRr.out.kept (keepS_below hba))
    have hsa : wr.heap.size < wa.heap.size := by rw [← ea]; simp
    have HEA := hid ea
    rw [← ea] at HNA HMA HCA HGA HKA HRA
    clear hna hba ea hlx hRk hRr hkids hks hsz hwd HEA
    have hbw : wr.heap.size < wr.heap.size + 1 := by omega
    generalize X5.spL (l.take k) st = sk at *
    rcases hkind with ⟨rfl, hr⟩ | ⟨hkd, hst⟩
    ·have HRX := hid hr
     by_cases hin : (x, y, z, u) ∈ sk.2
     ·have HST := hid (X5.step_in hr hin)
      clear hr
      have HMem := hid (smap_mem hin)
      generalize sk.2.idxOf (x, y, z, u) = i at *
      clear hin
      have KI := hid (IH.out _ (X5.kidsX l[k]) _ sk HSZ.out (by omega) HKA.out HGk.out ⟨HCA.out, HMA.out, Gr2.refl _ _ _⟩)
      go_wp2_with (at_lookup; refine wpList_look_some rfl (.tmp 17) (.tmp 19) 161 rfl keyed36 Tryz.underlying161 rfl HMA.out (wv (x, y, z, u)) (.int .i64 (i : Int)) lx rfl HLX.out HMem.out ?_)
      refine KI.out.mono ?_
      rintro e w9 ⟨rfl, hP9⟩
      have HP9 := hid hP9
      clear hP9
      go_wp2_with fail
      refine ⟨⟨k + 1, by omega, rfl, hid ?_⟩, ?_⟩
      ·rw [HT.out, HST.out]
       exact ⟨HP9.out.cls, HP9.out.seen, HGA.out.trans HP9.out.gr⟩
      ·show l.length - ((k : Int) + 1).toNat < l.length - ((k : Int)).toNat
       omega
     ·have HST := hid (X5.step_out hr hin)
      have HNone := hid (smap_none hin)
      have HLen := hid (smap_len sk.2)
      have HGs := hid (X5.step_good (r := l[k]) HGk.out)
      rw [HST.out] at HGs
      clear hin hr
      go_wp2_with (first | (at_lookup; refine wpList_look_none rfl (.tmp 17) (.tmp 19) 161 rfl keyed36 Tryz.underlying161 rfl HMA.out (wv (x, y, z, u)) (.int .i64 0) lx rfl HLX.out (zero3 _) HNone.out ?_) | (at_len; refine wpList_mlen rfl (.tmp 33) 161 rfl Tryz.underlying161 rfl HMA.out sk.2.length HLen.out ?_) | (at_mapUpdate; refine wpList_put rfl (.tmp 30) (.tmp 32) (.tmp 34) 161 (.inl rfl) keyed36 Tryz.underlying161 rfl HMA.out (wv (x, y, z, u)) (.int .i64 (sk.2.length : Int)) lx rfl rfl HLX.out HNone.out ?_))
      intro w5 hmap hgr
      have HMap := hid hmap
      have hs5 := hgr.size
      have hbe : (wr.alloc (.cells #[.int .i64 1, .int .u64 (x : Int), .int .u64 (y : Int), .int .u64 (z : Int), .int .u64 (u : Int), .slice ko kn kc] 46)).heap.size = wr.heap.size + 1 := by simp
      have HN5 := hid ((hgr.block _ (by omega) (by intro e; injection e; omega)).trans HNA.out)
      have HC5 := hid ((hgr.block _ (by omega) (by have := HNE.out; intro e; injection e; omega)).trans HCA.out)
      have HK5 := hid (HKA.out.kept (w' := w5) ⟨hs5, fun g hg hl => hgr.block g hl (fun e => (HSS.out g hg).2 (by injection e))⟩)
      have HR5 := hid (HRA.out.kept (w' := w5) ⟨hs5, fun g hg hl => hgr.block g hl (fun e => (HSS.out g hg).2 (by injection e))⟩)
      have HG5 := hid (HGA.out.trans (Gr2.of_right hgr))
      have KS := hid (splitBy_any w5 l[k] _ HR5.out cb sk.1 HC5.out HGk.out.1 HGk.out.2)
      obtain ⟨p0, p1, p2, p3, p4, p5⟩ := cells6 HN5.out
      have hw5 : wr.heap.size < w5.heap.size := by omega
      clear hmap hgr hbe
      go_wp2_with fail
      clear p0 p1 p2 p3 p4 p5
      refine KS.out.mono ?_
      rintro e w6 ⟨rfl, hc6, hg6⟩
      generalize X5.splitX sk.1 (fun b => X3.hasX l[k] b) = d at *
      have HC6 := hid hc6
      have HN6 := hid ((hg6.block _ hw5 (by intro e; injection e; omega)).trans HN5.out)
      have HM6 := hid (HMap.out.kept (hg6.block _ HMap.out.lt (by have := HNE.out; intro e; injection e; omega)))
      rw [← smap_push] at HM6
      have HK6 := hid (HK5.out.kept (w' := w6) ⟨hg6.size, fun g hg hl => hg6.block g hl (fun e => (HSS.out g hg).1 (by injection e))⟩)
      have HG6 := hid (HG5.out.trans (Gr2.of_left hg6))
      obtain ⟨p0, p1, p2, p3, p4, p5⟩ := cells6 HN6.out
      have KI := hid (IH.out w6 (X5.kidsX l[k]) _ (d, sk.2 ++ [(x, y, z, u)]) HSZ.out (by omega) HK6.out HGs.out ⟨HC6.out, HM6.out, Gr2.refl _ _ _⟩)
      clear hc6 hg6
      go_wp2_with fail
      clear p0 p1 p2 p3 p4 p5
      refine KI.out.mono ?_
      rintro e w9 ⟨rfl, hP9⟩
      have HP9 := hid hP9
      clear hP9
      go_wp2_with fail
      refine ⟨⟨k + 1, by omega, rfl, hid ?_⟩, ?_⟩
      ·rw [HT.out, HST.out]
       exact ⟨HP9.out.cls, HP9.out.seen, HG6.out.trans HP9.out.gr⟩
      ·show l.length - ((k : Int) + 1).toNat < l.length - ((k : Int)).toNat
       omega
    ·have HST := hid (hst sk)
     have hk1 : (kd == 1) = false := by simpa using hkd
     have hk2 : decide (kd = 1) = false := by simpa using hkd
     clear hst
     by_cases hin : (x, y, z, u) ∈ sk.2
     ·have HMem := hid (smap_mem hin)
      generalize sk.2.idxOf (x, y, z, u) = i at *
      clear hin
      have KI := hid (IH.out _ (X5.kidsX l[k]) _ sk HSZ.out (by omega) HKA.out HGk.out ⟨HCA.out, HMA.out, Gr2.refl _ _ _⟩)
      go_wp2_with (at_lookup; refine wpList_look_some rfl (.tmp 17) (.tmp 19) 161 rfl keyed36 Tryz.underlying161 rfl HMA.out (wv (x, y, z, u)) (.int .i64 (i : Int)) lx rfl HLX.out HMem.out ?_)
      refine KI.out.mono ?_
      rintro e w9 ⟨rfl, hP9⟩
      have HP9 := hid hP9
      clear hP9
      go_wp2_with fail
      refine ⟨⟨k + 1, by omega, rfl, hid ?_⟩, ?_⟩
      ·rw [HT.out, HST.out]
       exact ⟨HP9.out.cls, HP9.out.seen, HGA.out.trans HP9.out.gr⟩
      ·show l.length - ((k : Int) + 1).toNat < l.length - ((k : Int)).toNat
       omega
     ·have HNone := hid (smap_none hin)
      clear hin
      have KI := hid (IH.out _ (X5.kidsX l[k]) _ sk HSZ.out (by omega) HKA.out HGk.out ⟨HCA.out, HMA.out, Gr2.refl _ _ _⟩)
      go_wp2_with (at_lookup; refine wpList_look_none rfl (.tmp 17) (.tmp 19) 161 rfl keyed36 Tryz.underlying161 rfl HMA.out (wv (x, y, z, u)) (.int .i64 0) lx rfl HLX.out (zero3 _) HNone.out ?_)
      refine KI.out.mono ?_
      rintro e w9 ⟨rfl, hP9⟩
      have HP9 := hid hP9
      clear hP9
      go_wp2_with fail
      refine ⟨⟨k + 1, by omega, rfl, hid ?_⟩, ?_⟩
      ·rw [HT.out, HST.out]
       exact ⟨HP9.out.cls, HP9.out.seen, HGA.out.trans HP9.out.gr⟩
      ·show l.length - ((k : Int) + 1).toNat < l.length - ((k : Int)).toNat
       omega
   ·have h1 : ¬ (k : Int) < (l.length : Int) := by omega
    obtain rfl : k = l.length := by omega
    rw [List.take_length] at HQ
    go_wp2_with fail
    go_end0
    exact ⟨rfl, HQ.out⟩
end Go.Proofs.YtochckefnjobhaaGreatDoor
namespace Go.Proofs.YtochckefnjobhaaGreatDoor
open Go Go.RowKit Go.Lib
open X3 (RX Pl)
set_option linter.unusedVariables false
set_option linter.unusedSimpArgs false
def zs0 : List Nat := List.replicate 256 0
theorem zs0_len : zs0.length = 256 := List.length_replicate
theorem nvs_zero : nvs zs0 = Array.replicate 256 (.int .i64 0) := by
 unfold nvs zs0
 rw [List.map_replicate, List.toArray_replicate]
 rfl
theorem nvs_size (l : List Nat) : (nvs l).size = l.length := by unfold nvs; rw [List.size_toArray, List.length_map]
theorem nvs_one (l : List Nat) : (nvs l).all (·.oneCell') = true := by
 rw [Array.all_eq_true_iff_forall_mem]
 intro x hx
 unfold nvs at hx
 rw [List.mem_toArray] at hx
 obtain ⟨n, _, rfl⟩ := List.mem_map.1 hx
 rfl
section
variable {ops : Array Oper} {rest : List Oper} {o : Oper} {a : Act} {w : World} {Q : Exit → Act → World → Prop}
theorem wpList_made26 (hg : o.guard = none) (hop : o.op = .alloc 22)
  (hK : wpList Tryz.prog ops Q rest (a.put o.dst (.pointer (some ⟨w.heap.size, 0, none⟩))) (w.alloc (.cells (nvs zs0) 22))) : wpList Tryz.prog ops Q (o :: rest) a w :=
 wpList_made hg 22 hop _ (zero26 w) (by rw [nvs_zero] at hK; exact hK)
theorem wpList_load26 (hg : o.guard = none) (p : Operand) (hop : o.op = .load 22 p) (g : Nat) (hp : a.eval p = .pointer (some ⟨g, 0, none⟩)) (cs : List Nat) (hb : w.heap[g]? = some (.cells (nvs cs) 22 (0, 0))) (h1 : cs.length = 256)
  (hK : wpList Tryz.prog ops Q rest (a.put o.dst (.agg (nvs cs))) w) : wpList Tryz.prog ops Q (o :: rest) a w :=
 wpList_load_row hg 22 p hop g hp 22 (nvs cs) (0, 0) _ hb Tryz.underlying22 rfl (by rw [size26, nvs_size, h1]) hK
theorem wpList_store26 (hg : o.guard = none) (p v : Operand) (hop : o.op = .store 22 p v) (g : Nat) (hp : a.eval p = .pointer (some ⟨g, 0, none⟩)) (cur cs : List Nat) (hb : w.heap[g]? = some (.cells (nvs cur) 22 (0, 0)))
  (hv : a.eval v = .agg (nvs cs)) (h0 : cur.length = 256) (h1 : cs.length = 256) (hK : wpList Tryz.prog ops Q rest (a.put o.dst undef) (w.setRow g (nvs cs))) : wpList Tryz.prog ops Q (o :: rest) a w := by
 refine wpList_plain hg fun K' hK' => ?_
 have hrun := run_storeVar_row (P := Tryz.prog) w g 22 22 (nvs cur) (nvs cs) hb (by rw [size26, nvs_size, h1]) (by rw [nvs_size, nvs_size, h0, h1]) (nvs_one cs)
 unfold Oper.wp
 simp [execOp, hop, hp, hv, Instr.storeAt, Instr.sureAddr, hrun, Result.andThen]
 exact hK' _ _ hK
end
def clsX (l : List RX) : List Nat := (X5.spL l (zs0, [])).1
theorem good_zero : X5.Good (zs0, []) := ⟨zs0_len, fun x hx => by rw [List.eq_of_mem_replicate hx]; decide⟩
theorem cls_good (l : List RX) : X5.Good (X5.spL l (zs0, [])) := X5.spL_good l good_zero
set_option maxRecDepth 100000 in
set_option maxHeartbeats 4000000 in
theorem classes_any (l : List RX) (w : World) (v : Value) (h : RowR (fun g => g < w.heap.size) w v l) (hb : X3.sizeL l < 1000000000) :
  Calls Tryz.prog 74 #[v] w fun e w' => e = .returned (.agg (nvs (clsX l))) ∧ Below w.heap.size w w' := by
 have HR := hid h
 have HB := hid hb
 have HGd := hid (cls_good l)
 obtain ⟨w1, e1⟩ : ∃ w1, w.alloc (.cells (nvs zs0) 22) = w1 := ⟨_, rfl⟩
 obtain ⟨w2, e2⟩ : ∃ w2, w1.alloc (.cells (nvs zs0) 22) = w2 := ⟨_, rfl⟩
 obtain ⟨w3, e3⟩ : ∃ w3, w2.alloc (.map #[] 0) = w3 := ⟨_, rfl⟩
 have hb1 : Below w.heap.size w w1 := by rw [← e1]; exact (Below.refl _ _).alloc (Nat.le_refl _) _
 have hb2 : Below w1.heap.size w1 w2 := by rw [← e2]; exact (Below.refl _ _).alloc (Nat.le_refl _) _
 have hb3 : Below w2.heap.size w2 w3 := by rw [← e3]; exact (Below.refl _ _).alloc (Nat.le_refl _) _
 have hs1 : w1.heap.size = w.heap.size + 1 := by rw [← e1]; simp
 have hs2 : w2.heap.size = w1.heap.size + 1 := by rw [← e2]; simp
 have hs3 : w3.heap.size = w2.heap.size + 1 := by rw [← e3]; simp
 have HRes := hid (show w3.heap[w.heap.size]? = some (.cells (nvs zs0) 22 (0, 0)) from (hb3.block _ (by omega)).trans ((hb2.block _ (by omega)).trans (by rw [← e1]; exact new_block _ _)))
 have HCls := hid (show w3.heap[w1.heap.size]? = some (.cells (nvs zs0) 22 (0, 0)) from (hb3.block _ (by omega)).trans (by rw [← e2]; exact new_block _ _))
 have HMap := hid (show MapIs Tryz.prog 43 w3 w2.heap.size (smap []) from by rw [← e3]; exact MapIs.made w2)
 have hB3 : Below w.heap.size w w3 := hb1.trans ((hb2.trans (hb3.mono (by omega))).mono (by omega))
 have HB3 := hid hB3
 have HRow := hid (h.kept (keepS_below hB3))
 have HS := hid (And.intro hs1 (And.intro hs2 hs3))
 have KS := hid (split_any (fun g => g < w.heap.size) w1.heap.size w2.heap.size (fun g hg => ⟨by omega, by omega⟩) (by omega) (X3.sizeL l) w3 l v (zs0, []) (Nat.le_refl _) (by omega) HRow.out good_zero ⟨HCls.out, HMap.out, Gr2.refl _ _ _⟩)
 have hmm := @run_makeMap Tryz.prog
 clear h hb hb1 hb2 hb3 hs1 hs2 hs3 hB3
 go_enter Tryz.func74, Tryz.ntmps74
 go_wp2_with (with_reducible refine wpList_made26 rfl rfl ?_)
 refine KS.out.mono ?_
 rintro e w4 ⟨rfl, hP⟩
 have HP := hid hP
 have HRes4 := hid ((hP.gr.block _ (by have := HS.out; omega) (by have := HS.out; omega) (by have := HS.out; omega)).trans HRes.out)
 have HB4 := hid (show Below w.heap.size w w4 from ⟨hP.gr.os.trans HB3.out.os, hP.gr.tape.trans HB3.out.tape, hP.gr.output.trans HB3.out.output, Nat.le_trans HB3.out.size hP.gr.size, fun g hg => (hP.gr.block g (Nat.lt_of_lt_of_le hg HB3.out.size) (by have := HS.out; omega) (by have := HS.out; omega)).trans (HB3.out.block g hg)⟩)
 clear hP e1 e2 e3 hmm
 obtain ⟨cs, hcs⟩ : ∃ cs, clsX l = cs := ⟨_, rfl⟩
 have HC4 := hid (show w4.heap[w1.heap.size]? = some (.cells (nvs cs) 22 (0, 0)) from by rw [← hcs]; exact HP.out.cls)
 have HL4 := hid (show cs.length = 256 from by rw [← hcs]; exact HGd.out.1)
 have HCS := hid hcs
 clear hcs
 go_wp2_with (first | (with_reducible refine wpList_load26 rfl (.tmp 3) rfl _ rfl cs HC4.out HL4.out ?_) | (with_reducible refine wpList_store26 rfl (.tmp 2) (.tmp 9) rfl _ rfl zs0 cs HRes4.out rfl zs0_len HL4.out ?_))
 refine bodyPost_ret (v := .agg (nvs cs)) (results_cell_row rfl _ _ w.heap.size 22 (nvs cs) (0, 0) _ rfl (setRow_heap w4 w.heap.size _ (nvs cs) 22 (0, 0) HRes4.out) Tryz.underlying22 rfl (by rw [size26, nvs_size, HL4.out])) rfl ⟨by rw [HCS.out], ?_⟩
 exact ⟨HB4.out.os, HB4.out.tape, HB4.out.output, by rw [setRow_size]; exact HB4.out.size, fun g hg => by rw [setRow_other _ _ _ _ (by omega)]; exact HB4.out.block g hg⟩
end Go.Proofs.YtochckefnjobhaaGreatDoor
namespace Go.Proofs.X5
open Go.Proofs.X3 (RX)
set_option linter.unusedVariables false
theorem zs_first : First YtochckefnjobhaaGreatDoor.zs0 := by
 intro i hi
 unfold YtochckefnjobhaaGreatDoor.zs0 at *
 rw [List.length_replicate] at hi
 have hz : ∀ j, j < 256 → (List.replicate 256 0).getD j 0 = 0 := fun j hj => by
  rw [List.getD_eq_getElem?_getD, List.getElem?_replicate]
  split <;> rfl
 by_cases h0 : i = 0
 ·subst h0
  exact ⟨0, fun j hj => by omega, fun v hv => by omega, by rw [hz 0 (by omega)]; omega⟩
 ·refine ⟨1, fun j hj => by rw [hz j (by omega)]; omega, fun v hv => ⟨0, by omega, by rw [hz 0 (by omega)]; omega⟩, by rw [hz i hi]; omega⟩
theorem step_first {r : RX} {st : St} (hg : Good st) (h : First st.1) : First (step r st).1 := by
 cases r with
 | bytes x y z u =>
  by_cases hm : (x, y, z, u) ∈ st.2
  ·rw [step_in rfl hm]; exact h
  ·rw [step_out rfl hm]
   have := split_first (h := fun b => X3.hasX (.bytes x y z u) b) hg.1
   generalize splitX st.1 (fun b => X3.hasX (.bytes x y z u) b) = d at *
   exact this
 | empty => exact h
 | cat l => exact h
 | alt l => exact h
 | star r => exact h
mutual
theorem spX_first : ∀ (r : RX) {st : St}, Good st → First st.1 → First (spX r st).1
 | .bytes x y z u, st, hg, h => step_first hg h
 | .cat l, st, hg, h => spL_first l hg h
 | .alt l, st, hg, h => spL_first l hg h
 | .star r, st, hg, h => spX_first r hg h
 | .empty, st, hg, h => h
theorem spL_first : ∀ (l : List RX) {st : St}, Good st → First st.1 → First (spL l st).1
 | [], st, hg, h => h
 | r :: l, st, hg, h => spL_first l (spX_good r hg) (spX_first r hg h)
end
end Go.Proofs.X5
namespace Go.Proofs.YtochckefnjobhaaGreatDoor
open Go Go.RowKit Go.Lib
open X3 (RX Pl)
set_option linter.unusedVariables false
set_option linter.unusedSimpArgs false
theorem cls_first (l : List RX) : X5.First (clsX l) := X5.spL_first l good_zero X5.zs_first
theorem agg3 (w : World) : (isAgg 3).run Tryz.prog w = .ok false w := by kernel_rfl
theorem sizeof3 (w : World) : (sizeOf 3).run Tryz.prog w = .ok 1 w := by kernel_rfl
theorem index26 (cs : List Nat) (hl : cs.length = 256) (k : Nat) (hk : k < 256) (w : World) : (Instr.index 22 (.agg (nvs cs)) (.int .i64 (k : Int))).run Tryz.prog w = .ok (.int .i64 ((cs.getD k 0 : Nat) : Int)) w := by
 have hv : cs[k]? = some (cs.getD k 0) := by
  rw [List.getElem?_eq_getElem (by omega), List.getD_eq_getElem?_getD, List.getElem?_eq_getElem (by omega)]
  rfl
 have h1 : (k : Int) < 256 := by omega
 generalize cs.getD k 0 = q at *
 simp [Instr.index, asIntOf, run_underlying Tryz.underlying22, part, agg3, sizeof3, hv, hk, h1, Result.andThen, Sem.run_bind]
abbrev bys (l : List Nat) : List Value := l.map fun (n : Nat) => Value.int .u8 (n : Int)
theorem info5 : (Tryz.prog.info? 5).map (fun i => (i.zero, i.size, i.bytes)) = some (some (.int .u8 0), 1, 1) := by kernel_rfl
theorem fs_push {c : List Nat} {k : Nat} (h : c.getD k 0 = (X5.fsX c k).length) : X5.fsX c (k + 1) = X5.fsX c k ++ [k] := by rw [X5.fsX, if_pos h]
theorem fs_same {c : List Nat} {k : Nat} (h : ¬ c.getD k 0 = (X5.fsX c k).length) : X5.fsX c (k + 1) = X5.fsX c k := by rw [X5.fsX, if_neg h]
set_option maxRecDepth 100000 in
set_option maxHeartbeats 4000000 in
theorem firsts_any (cs : List Nat) (hl : cs.length = 256) (w : World) :
  Calls Tryz.prog 75 #[.agg (nvs cs)] w fun e w' => ∃ rv, e = .returned rv ∧ w'.ownsRow w.heap.size 5 1 rv (X5.fsX cs 256).length (bys (X5.fsX cs 256)) ∧ Below w.heap.size w w' := by
 have HL := hid hl
 obtain ⟨w1, e1⟩ : ∃ w1, w.alloc (.cells (nvs cs) 22) = w1 := ⟨_, rfl⟩
 have hb1 : Below w.heap.size w w1 := by rw [← e1]; exact (Below.refl _ _).alloc (Nat.le_refl _) _
 have HBox := hid (show w1.heap[w.heap.size]? = some (.cells (nvs cs) 22 (0, 0)) from by rw [← e1]; exact new_block _ _)
 have hs1 : w.heap.size ≤ w1.heap.size := hb1.size
 have HB1 := hid hb1
 obtain ⟨j0, hj, hk0, hk1, hk2⟩ := info_parts info5
 clear hl hb1
 go_enter Tryz.func75, Tryz.ntmps75
 go_wp2_with (with_reducible refine wpList_load26 rfl (.tmp 1) rfl _ rfl cs HBox.out HL.out ?_)
 clear e1
 go_loopw [3, 7] (fun t3 t7 wr => ∃ k : Nat, k ≤ 256 ∧ t7 = .int .i64 (k : Int) ∧ Hid (wr.ownsRow w.heap.size 5 1 t3 (X5.fsX cs k).length (bys (X5.fsX cs k))) ∧ Below w.heap.size w wr) (fun _ t7 _ => 256 - (RowKit.intOf t7).toNat)
 case atStart => exact ⟨0, by omega, rfl, hid (World.ownsRow_nil _ _ _ _), HB1.out⟩
 case round =>
  obtain ⟨k, hk, rfl, HR, hB⟩ := hrel
  have HB := hid hB
  have hszr := hB.size
  clear hB
  by_cases hlt : k < 256
  ·have h1 : (k : Int) < 256 := by omega
   have h2 : (0 : Int) ≤ (k : Int) := by omega
   have hix := index26 cs HL.out k hlt wr
   have hfl := X5.fs_len cs k
   obtain ⟨fo, fc, rfl⟩ : ∃ fo fc, u3 = .slice fo (X5.fsX cs k).length fc := by
    rcases HR.out.2 with ⟨h, h0⟩ | ⟨g, cap, cur, h, _⟩
    ·rw [h, h0]; exact ⟨_, _, rfl⟩
    ·exact ⟨_, _, h⟩
   by_cases he : cs.getD k 0 = (X5.fsX cs k).length
   ·have HP := hid (fs_push he)
    rw [he] at hix
    generalize X5.fsX cs k = F at *
    obtain ⟨wq, eq⟩ : ∃ wq, wr.alloc (.cells #[.int .u8 (k : Int)] 5) = wq := ⟨_, rfl⟩
    have hbq : Below wr.heap.size wr wq := by rw [← eq]; exact (Below.refl _ _).alloc (Nat.le_refl _) _
    have hnq : wq.heap[wr.heap.size]? = some (.cells #[.int .u8 (k : Int)] 5 (0, 0)) := by rw [← eq]; exact new_block _ _
    have HFq := hid (owns_kept HR.out fun g hg => hbq.block g (owns_lt HR.out g hg).2)
    have HBq := hid (HB.out.trans (hbq.mono hszr))
    have hdq := Nat.le_trans hszr hbq.size
    clear hbq he
    go_wp2_with (at_builtin; refine wpList_append_own_at _ rfl (.tmp 15) (.tmp 18) 99 rfl w.heap.size 5 j0 (.int .u8 0) 1 1 Tryz.underlying99 hj hk0 hk1 hk2 rfl (by decide) _ F.length (bys F) rfl HFq.out ⟨wr.heap.size, 0, none⟩ 1 1 [.int .u8 (k : Int)] rfl rfl ?_ ?_ ?_ ?_ ?_ ?_)
    ·intro j v hj
     have := Lib.cell_of_heap hnq j
     first | rw [show (⟨wr.heap.size, 0, none⟩ : Addr).add j = ⟨wr.heap.size, j, none⟩ by simp [Addr.add]; omega] | skip
     rw [this, ← hj]
     simp
    ·first | (intro v hv; simp at hv; rcases hv with rfl; rfl) | rfl | simp [Value.oneCell']
    ·unfold maxLen; omega
    ·omega
    try exact hdq
    intro v7 w7 hown7 hgrow7 hnil7 hat7
    have HF7 := hid (show w7.ownsRow w.heap.size 5 1 v7 (F ++ [k]).length (bys (F ++ [k])) from by
     rw [List.length_append]; unfold bys; rw [List.map_append]; simpa using hown7)
    have HB7 := hid (HBq.out.grown hgrow7 hdq (fun q hq => (owns_lt HFq.out q hq).1))
    rw [← HP.out] at HF7
    clear hown7 hgrow7 hnil7 hat7 hnq eq
    go_wp2_with fail
    refine ⟨⟨k + 1, by omega, rfl, HF7, HB7.out⟩, ?_⟩
    show 256 - ((k : Int) + 1).toNat < 256 - ((k : Int)).toNat
    omega
   ·have HP := hid (fs_same he)
    have HRn := hid (show wr.ownsRow w.heap.size 5 1 (.slice fo (X5.fsX cs k).length fc) (X5.fsX cs (k + 1)).length (bys (X5.fsX cs (k + 1))) from by rw [HP.out]; exact HR.out)
    generalize cs.getD k 0 = ck at *
    have he3 : (((ck : Nat) : Int) == ((X5.fsX cs k).length : Int)) = false := by
     rw [beq_eq_false_iff_ne]; omega
    have he4 : decide (ck = (X5.fsX cs k).length) = false := by simpa using he
    clear HP
    go_wp2_with fail
    refine ⟨⟨k + 1, by omega, rfl, HRn, HB.out⟩, ?_⟩
    show 256 - ((k : Int) + 1).toNat < 256 - ((k : Int)).toNat
    omega
  ·have h1 : ¬ (k : Int) < 256 := by omega
   obtain rfl : k = 256 := by omega
   go_wp2_with fail
   go_ret
   exact ⟨_, rfl, HR.out, HB.out⟩
end Go.Proofs.YtochckefnjobhaaGreatDoor
namespace Go.Proofs
open Go.Shelf
shelf_lay LaysM.n176 Nm 176 at Tryz as Tryz.laysM176
end Go.Proofs
namespace Go.Proofs.YtochckefnjobhaaGreatDoor
open Go Go.RowKit Go.Lib Go.Shelf
open X3 (RX Pl)
set_option linter.unusedVariables false
set_option linter.unusedSimpArgs false
abbrev Tab (B : Nat) (w : World) : Prop := Lib.TabBelow Tryz.prog B w "internal/strconv.uint64pow10" .u64 Lib.pow10Tab
theorem Tab.up {B B' : Nat} {w : World} (h : Tab B w) (hB : B ≤ B') : Tab B' w := fun w' hb => h w' (hb.mono hB)
theorem append_int (B n : Nat) (i : Int) (h0 : -9223372036854775808 ≤ i) (h1 : i ≤ 9223372036854775807) (sv : Value) (xs : List Value) (w : World) (hown : w.ownsRow B 5 1 sv n xs) (hBw : B ≤ w.heap.size) (hlim : n + 21 ≤ 140737488355328) (htab : Tab B w) :
  Calls Tryz.prog 99 #[sv, .int .i64 i, .int .i64 10] w fun e w' => ∃ v', e = .returned v' ∧ w'.ownsRow B 5 1 v' (n + (Lib.itoa i).length) (xs ++ Lib.byteCells (Lib.itoa i)) ∧ Below B w w' :=
 (Any.strconv_AppendInt_10 Tryz.laysM176 B n i h0 h1 sv xs w hown hBw hlim htab).mono fun _ _ ⟨v, h1, h2, h3, _⟩ => ⟨v, h1, h2, h3⟩
def valD (l : List UInt8) : Nat := l.foldl (fun a b => 10 * a + (b.toNat - 48)) 0
theorem dec_val : ∀ u, valD (Lib.decDigits u) = u := by
 intro u
 induction u using Nat.strongRecOn with
 | _ u ih =>
  by_cases h : u < 10
  ·rw [Lib.decDigits, dif_pos h]
   simp only [valD, List.foldl_cons, List.foldl_nil]
   have : (UInt8.ofNat (48 + u)).toNat = 48 + u := by rw [UInt8.toNat_ofNat']; omega
   rw [this]; omega
  ·rw [Lib.decDigits, dif_neg h]
   have e := ih (u / 10) (by omega)
   unfold valD at e ⊢
   rw [List.foldl_append, e]
   simp only [List.foldl_cons, List.foldl_nil]
   have : (UInt8.ofNat (48 + u % 10)).toNat = 48 + u % 10 := by rw [UInt8.toNat_ofNat']; omega
   rw [this]; omega
theorem dec_digit : ∀ u, ∀ b ∈ Lib.decDigits u, 48 ≤ b.toNat := by
 intro u
 induction u using Nat.strongRecOn with
 | _ u ih =>
  intro b hb
  by_cases h : u < 10
  ·rw [Lib.decDigits, dif_pos h] at hb
   obtain rfl := List.mem_singleton.1 hb
   have : (UInt8.ofNat (48 + u)).toNat = 48 + u := by rw [UInt8.toNat_ofNat']; omega
   omega
  ·rw [Lib.decDigits, dif_neg h] at hb
   rcases List.mem_append.1 hb with hb | hb
   ·exact ih (u / 10) (by omega) b hb
   ·obtain rfl := List.mem_singleton.1 hb
    have : (UInt8.ofNat (48 + u % 10)).toNat = 48 + u % 10 := by rw [UInt8.toNat_ofNat']; omega
    omega
theorem dec_long : ∀ (k u : Nat), u < 10 ^ (k + 1) → (Lib.decDigits u).length ≤ k + 1
 | 0, u, h => by rw [Lib.decDigits, dif_pos (by simpa using h)]; simp
 | k + 1, u, h => by
  by_cases h10 : u < 10
  ·rw [Lib.decDigits, dif_pos h10]; simp
  ·rw [Lib.decDigits, dif_neg h10]
   have := dec_long k (u / 10) (by rw [Nat.pow_succ] at h; omega)
   simp; omega
theorem sep_inj {x : UInt8} : ∀ {l l' r r' : List UInt8}, x ∉ l → x ∉ l' → l ++ x :: r = l' ++ x :: r' → l = l' ∧ r = r'
 | [], [], r, r', _, _, h => by simpa using h
 | [], b :: l', r, r', _, h2, h => by
  simp only [List.nil_append, List.cons_append, List.cons.injEq] at h
  exact absurd (by rw [h.1]; simp) h2
 | b :: l, [], r, r', h1, _, h => by
  simp only [List.nil_append, List.cons_append, List.cons.injEq] at h
  exact absurd (by rw [h.1]; simp) h1
 | b :: l, b' :: l', r, r', h1, h2, h => by
  simp only [List.cons_append, List.cons.injEq] at h
  obtain ⟨e1, e2⟩ := sep_inj (fun hm => h1 (by simp [hm])) (fun hm => h2 (by simp [hm])) h.2
  exact ⟨by rw [h.1, e1], e2⟩
def keyX (A : List Nat) : List UInt8 := A.flatMap fun n => Lib.decDigits n ++ [32]
theorem keyX_inj : ∀ {A B : List Nat}, keyX A = keyX B → A = B
 | [], [], _ => rfl
 | [], b :: B, h => by
  have := congrArg List.length h
  simp [keyX] at this
 | a :: A, [], h => by
  have := congrArg List.length h
  simp [keyX] at this
 | a :: A, b :: B, h => by
  unfold keyX at h
  rw [List.flatMap_cons, List.flatMap_cons, List.append_assoc, List.append_assoc] at h
  have hn : ∀ u, (32 : UInt8) ∉ Lib.decDigits u := fun u hm => by have := dec_digit u _ hm; simp at this
  obtain ⟨e1, e2⟩ := sep_inj (hn a) (hn b) h
  have e3 : a = b := by rw [← dec_val a, ← dec_val b, e1]
  rw [e3, keyX_inj e2]
theorem keyX_take (A : List Nat) (k : Nat) (hk : k < A.length) : keyX (A.take (k + 1)) = keyX (A.take k) ++ Lib.decDigits A[k] ++ [32] := by
 unfold keyX
 rw [List.take_add_one, List.getElem?_eq_getElem hk, List.flatMap_append]
 simp
theorem keyX_len (A : List Nat) (h : ∀ q ∈ A, q < 1000000000) : (keyX A).length ≤ A.length * 12 := by
 induction A with
 | nil => simp [keyX]
 | cons a A ih =>
  have h1 := dec_long 9 a (by have := h a (by simp); omega)
  have h2 := ih fun q hq => h q (by simp [hq])
  unfold keyX at *
  rw [List.flatMap_cons]
  simp only [List.length_append, List.length_cons, List.length_nil]
  omega
theorem conv49 (w : World) (B : Nat) (v : Value) (l : List UInt8) (h : w.ownsRow B 5 1 v l.length (Lib.byteCells l)) : (convert 99 9 v).run Tryz.prog w = .ok (.string ⟨l.toArray⟩) w := by
 rcases h.2 with ⟨rfl, h0⟩ | ⟨g, cap, cur, rfl, _⟩
 ·obtain rfl : l = [] := List.eq_nil_of_length_eq_zero h0
  exact run_convert_nil_bytes w 99 9 5 0 Tryz.underlying99 Tryz.underlying5 Tryz.underlying9
 ·refine Go.run_convert_bytes_back w 99 9 5 _ cap l Tryz.underlying99 Tryz.underlying5 Tryz.underlying9 fun j hj => ?_
  exact h.cells rfl j _ (by simp [Lib.byteCells, hj])
set_option maxRecDepth 100000 in
set_option maxHeartbeats 4000000 in
theorem keyOf_any {w : World} {B Bt : Nat} {v : Value} {A : List Nat} (h : w.ownsRow B 3 1 v A.length (ints A)) (hA : ∀ q ∈ A, q < 1000000000) (hl : A.length ≤ 1000000) (ht : Tab Bt w) (hBt : Bt ≤ w.heap.size) :
  Calls Tryz.prog 77 #[v] w fun e w' => e = .returned (.string ⟨(keyX A).toArray⟩) ∧ Below w.heap.size w w' := by
 have HR := hid h
 have HA := hid hA
 have HT := hid ht
 obtain ⟨vo, vc, rfl, hrow⟩ := row_at (l := A.map fun (q : Nat) => (q : Int)) (by rw [List.length_map, ← ints_zs]; exact h)
 rw [List.length_map] at HR
 have HROW := hid hrow
 obtain ⟨j0, hj, hk0, hk1, hk2⟩ := info_parts info5
 rw [List.length_map]
 clear h hA ht hrow
 go_enter Tryz.func77, Tryz.ntmps77
 go_wp2_with fail
 go_loopw [3, 8] (fun t3 t8 wr => ∃ k : Nat, k ≤ A.length ∧ t8 = .int .i64 (k : Int) ∧ Hid (wr.ownsRow w.heap.size 5 1 t3 (keyX (A.take k)).length (Lib.byteCells (keyX (A.take k)))) ∧ Below w.heap.size w wr) (fun _ t8 _ => A.length - (RowKit.intOf t8).toNat)
 case atStart => exact ⟨0, Nat.zero_le _, rfl, hid (World.ownsRow_nil _ _ _ _), Below.refl _ _⟩
 case round =>
  obtain ⟨k, hk, rfl, HK, hB⟩ := hrel
  have HB := hid hB
  have hszr := hB.size
  by_cases hlt : k < A.length
  ·have h1 : (k : Int) < (A.length : Int) := by omega
   have h2 : (0 : Int) ≤ (k : Int) := by omega
   obtain ⟨g, rfl, hc0⟩ := HROW.out k (by rw [List.length_map]; exact hlt)
   have hgl : g < w.heap.size := (owns_lt HR.out g rfl).2
   have hc : wr.cell? ⟨g, k, none⟩ = some (.int .i64 ((A[k] : Nat) : Int)) := by
    have := (World.cell?_of_block (a := ⟨g, k, none⟩) (hB.block g hgl)).trans hc0
    simpa using this
   have ha := HA.out A[k] (List.getElem_mem hlt)
   have HTk := hid (keyX_take A k hlt)
   have hkl := keyX_len (A.take k) fun q hq => HA.out q (List.mem_of_mem_take hq)
   rw [List.length_take] at hkl
   have hkl2 : (keyX (A.take k)).length ≤ 12000000 := by omega
   generalize A[k] = q at *
   generalize keyX (A.take k) = K at *
   have KA := hid (append_int w.heap.size K.length (q : Int) (by omega) (by omega) _ _ wr HK.out hszr (by omega) (Tab.up (HT.out.on (hB.mono hBt)) hBt))
   have HDL := hid (show (Lib.itoa (q : Int)) = Lib.decDigits q from Lib.itoa_nonneg q)
   have hdl := dec_long 9 q (by omega)
   clear hc0 hB hkl
   go_wp2_with fail
   refine KA.out.mono ?_
   rintro e w2 ⟨v2, rfl, hown2, hb2⟩
   rw [HDL.out] at hown2
   have hs2 := hb2.size
   obtain ⟨wq, eq⟩ : ∃ wq, w2.alloc (.cells #[.int .u8 32] 5) = wq := ⟨_, rfl⟩
   have hbq : Below w2.heap.size w2 wq := by rw [← eq]; exact (Below.refl _ _).alloc (Nat.le_refl _) _
   have hnq : wq.heap[w2.heap.size]? = some (.cells #[.int .u8 32] 5 (0, 0)) := by rw [← eq]; exact new_block _ _
   have HFq := hid (owns_kept hown2 fun g hg => hbq.block g (owns_lt hown2 g hg).2)
   have HBq := hid (HB.out.trans (hb2.trans (hbq.mono (Nat.le_trans hszr hs2))))
   have hdq := Nat.le_trans (Nat.le_trans hszr hs2) hbq.size
   clear hbq hown2 hb2
   go_wp2_with (at_builtin; refine wpList_append_own_at _ rfl (.tmp 15) (.tmp 16) 99 rfl w.heap.size 5 j0 (.int .u8 0) 1 1 Tryz.underlying99 hj hk0 hk1 hk2 rfl (by decide) v2 (K.length + (Lib.decDigits q).length) (Lib.byteCells K ++ Lib.byteCells (Lib.decDigits q)) rfl HFq.out ⟨w2.heap.size, 0, none⟩ 1 1 [.int .u8 32] rfl rfl ?_ ?_ ?_ ?_ ?_ ?_)
   ·intro j v hj
    have := Lib.cell_of_heap hnq j
    first | rw [show (⟨w2.heap.size, 0, none⟩ : Addr).add j = ⟨w2.heap.size, j, none⟩ by simp [Addr.add]; omega] | skip
    rw [this, ← hj]
    simp
   ·first | (intro v hv; simp at hv; rcases hv with rfl; rfl) | rfl | simp [Value.oneCell']
   ·unfold maxLen; omega
   ·omega
   try exact hdq
   intro v7 w7 hown7 hgrow7 hnil7 hat7
   have HF7 := hid (show w7.ownsRow w.heap.size 5 1 v7 (keyX (A.take (k + 1))).length (Lib.byteCells (keyX (A.take (k + 1)))) from by
    rw [HTk.out, List.length_append, List.length_append, Lib.byteCells, List.map_append, List.map_append, List.append_assoc]; exact hown7)
   have HB7 := hid (HBq.out.grown hgrow7 hdq (fun q hq => (owns_lt HFq.out q hq).1))
   clear hown7 hgrow7 hnil7 hat7 hnq eq
   go_wp2_with fail
   refine ⟨⟨k + 1, by omega, rfl, HF7, HB7.out⟩, ?_⟩
   show A.length - ((k : Int) + 1).toNat < A.length - ((k : Int)).toNat
   omega
  ·have h1 : ¬ (k : Int) < (A.length : Int) := by omega
   obtain rfl : k = A.length := by omega
   rw [List.take_length] at HK
   have hcv := conv49 wr w.heap.size u3 (keyX A) HK.out
   clear hB
   go_wp2_with fail
   go_ret
   exact ⟨rfl, HB.out⟩
end Go.Proofs.YtochckefnjobhaaGreatDoor
