/- Maps, told by what they hold. -/
import Derived.Maps.Own
import Derived.Maps.OwnOps
import Derived.Test.YtjpbhbfklkipkaaDoorSd
namespace Go.Proofs.YtjpbhbfklkipkaaDoor
open Go Go.RowKit Go.Lib Go.MapKept Go.ChangeMaps
open Go.Maps (Keyed)
set_option linter.unusedVariables false
set_option linter.unusedSimpArgs false

/-- Block b is a map of just these keys and values. -/
structure MapIs (P : Program) (k : TypeId) (w : World) (b : Nat) (L : List (Value × Value)) : Prop where
  ex : ∃ es clock, w.heap[b]? = some (.map es clock) ∧ es.toList.map (fun e => (e.key, e.val)) = L
  keyed : ∀ p ∈ L, ∃ l, keyOf P k p.1 = some l
  apart : (L.map (·.1)).Nodup

section
variable {P : Program} {k e t : TypeId} {w : World} {b : Nat} {L : List (Value × Value)}
theorem MapIs.made (w : World) : MapIs P k (w.alloc (.map #[] 0)) w.heap.size [] := ⟨⟨#[], 0, (MapKept.heap_alloc w _).1, rfl⟩, by simp, by simp⟩
theorem MapIs.lt (h : MapIs P k w b L) : b < w.heap.size := by
  obtain ⟨es, clock, hb, _⟩ := h.ex
  exact (Array.getElem?_eq_some_iff.1 hb).1
theorem MapIs.kept {w' : World} (h : MapIs P k w b L) (hb : w'.heap[b]? = w.heap[b]?) : MapIs P k w' b L := by
  obtain ⟨es, clock, h1, h2⟩ := h.ex
  exact ⟨⟨es, clock, hb.trans h1, h2⟩, h.keyed, h.apart⟩
theorem MapIs.below {w' : World} (h : MapIs P k w b L) (hb : Below w.heap.size w w') : MapIs P k w' b L := h.kept (hb.block b h.lt)
theorem MapIs.entry {es : Array MapEntry} (h : es.toList.map (fun e => (e.key, e.val)) = L) {x : MapEntry} (hx : x ∈ es.toList) : (x.key, x.val) ∈ L := by
  rw [← h]; exact List.mem_map.2 ⟨x, hx, rfl⟩
theorem MapIs.keys (h : MapIs P k w b L) {es : Array MapEntry} (he : es.toList.map (fun e => (e.key, e.val)) = L) : ∀ x ∈ es.toList, ∃ l, keyOf P k x.key = some l :=
  fun x hx => h.keyed _ (MapIs.entry he hx)

theorem pair_val {L : List (Value × Value)} (hn : (L.map (·.1)).Nodup) {x u v : Value} (h1 : (x, u) ∈ L) (h2 : (x, v) ∈ L) : u = v := by
  induction L with
  | nil => cases h1
  | cons p L ih =>
    rw [List.map_cons, List.nodup_cons] at hn
    rcases List.mem_cons.1 h1 with e1 | h1
    · rcases List.mem_cons.1 h2 with e2 | h2
      · rw [← e1] at e2; injection e2 with _ e2; exact e2.symm
      · exact absurd (List.mem_map.2 ⟨_, h2, by rw [← e1]⟩) hn.1
    · rcases List.mem_cons.1 h2 with e2 | h2
      · exact absurd (List.mem_map.2 ⟨_, h1, by rw [← e2]⟩) hn.1
      · exact ih hn.2 h1 h2

theorem MapIs.look_some (h : MapIs P k w b L) (K : Keyed P k) (ht : P.underlying t = some (.map k e)) {x v : Value} {lx : Lit} (hkey : keyOf P k x = some lx) (hm : (x, v) ∈ L) :
    (Instr.lookup t (.map (some b)) x true).run P w = .ok (.tuple #[v, .bool true]) w := by
  obtain ⟨es, clock, hb, he⟩ := h.ex
  rcases K.find w hkey es.toList (h.keys he) with ⟨h1, h2⟩ | ⟨j, e0, h1, h2, h3⟩
  · rw [← he] at hm
    obtain ⟨y, hy, hyx⟩ := List.mem_map.1 hm
    injection hyx with e1 _
    exact absurd e1 (h2 y hy)
  · have hv : e0.val = v := pair_val h.apart (by rw [← h3]; exact MapIs.entry he (List.mem_of_getElem? h2)) hm
    simp [Instr.lookup, run_underlying ht, MapKept.run_getObj_map hb, K.check w _ hkey, h1, hv, Result.andThen]
theorem MapIs.look_none (h : MapIs P k w b L) (K : Keyed P k) (ht : P.underlying t = some (.map k e)) {x z : Value} {lx : Lit} (hkey : keyOf P k x = some lx) (hz : (zeroValue e).run P w = .ok z w) (hn : ∀ p ∈ L, p.1 ≠ x) :
    (Instr.lookup t (.map (some b)) x true).run P w = .ok (.tuple #[z, .bool false]) w := by
  obtain ⟨es, clock, hb, he⟩ := h.ex
  rcases K.find w hkey es.toList (h.keys he) with ⟨h1, h2⟩ | ⟨j, e0, h1, h2, h3⟩
  · simp [Instr.lookup, run_underlying ht, MapKept.run_getObj_map hb, K.check w _ hkey, h1, hz, Result.andThen]
  · exact absurd h3 (hn _ (MapIs.entry he (List.mem_of_getElem? h2)))
/-- A key that is not there is put in. -/
theorem MapIs.put (h : MapIs P k w b L) (K : Keyed P k) (ht : P.underlying t = some (.map k e)) {x v : Value} {lx : Lit} (hkey : keyOf P k x = some lx) (hn : ∀ p ∈ L, p.1 ≠ x) :
    ∃ w', (Instr.mapUpdate t (.map (some b)) x v).run P w = .ok () w' ∧ MapIs P k w' b (L ++ [(x, v)]) ∧ w.grownBy w' (some b) := by
  obtain ⟨es, clock, hb, he⟩ := h.ex
  rcases K.find w hkey es.toList (h.keys he) with ⟨h1, h2⟩ | ⟨j, e0, h1, h2, h3⟩
  · refine ⟨setBlock w b (.map (es.push { key := x, val := v, born := clock }) (clock + 1)), ?_, ⟨⟨_, _, heap_setBlock_same hb _, by simp [he]⟩, ?_, ?_⟩, ⟨rfl, rfl, rfl, by simp [setBlock], fun i _ hi => heap_setBlock_other hb _ (fun e => hi (by rw [e]))⟩⟩
    · simp [Instr.mapUpdate, run_underlying ht, MapKept.run_getObj_map hb, K.check w _ hkey, h1, MapKept.run_setObj_map _ hb, Result.andThen, setBlock]
    · intro p hp
      rcases List.mem_append.1 hp with hp | hp
      · exact h.keyed p hp
      · simp at hp; subst hp; exact ⟨lx, hkey⟩
    · rw [List.map_append, List.nodup_append]
      refine ⟨h.apart, by simp, ?_⟩
      intro a ha b' hb'
      simp at hb'
      subst hb'
      obtain ⟨p, hp, rfl⟩ := List.mem_map.1 ha
      exact hn p hp
  · exact absurd h3 (hn _ (MapIs.entry he (List.mem_of_getElem? h2)))

theorem wpList_look_some {ops : Array Oper} {rest : List Oper} {o : Oper} {a : Act} {Q : Exit → Act → World → Prop} (hg : o.guard = none) (m x : Operand) (t : TypeId) (hop : o.op = Op.lookup t m x true)
    (K : Keyed P k) (ht : P.underlying t = some (.map k e)) (hm : a.eval m = .map (some b)) (h : MapIs P k w b L) (xv v : Value) (lx : Lit) (hx : a.eval x = xv) (hkey : keyOf P k xv = some lx) (hmem : (xv, v) ∈ L)
    (hK : wpList P ops Q rest (a.put o.dst (.tuple #[v, .bool true])) w) : wpList P ops Q (o :: rest) a w := by
  refine wpList_plain hg fun K' hK' => ?_
  have hrun := h.look_some K ht hkey hmem
  unfold Oper.wp
  simp [execOp, hop, hm, hx, hrun, Result.andThen]
  exact hK' _ _ hK
theorem wpList_look_none {ops : Array Oper} {rest : List Oper} {o : Oper} {a : Act} {Q : Exit → Act → World → Prop} (hg : o.guard = none) (m x : Operand) (t : TypeId) (hop : o.op = Op.lookup t m x true)
    (K : Keyed P k) (ht : P.underlying t = some (.map k e)) (hm : a.eval m = .map (some b)) (h : MapIs P k w b L) (xv z : Value) (lx : Lit) (hx : a.eval x = xv) (hkey : keyOf P k xv = some lx) (hz : (zeroValue e).run P w = .ok z w) (hn : ∀ p ∈ L, p.1 ≠ xv)
    (hK : wpList P ops Q rest (a.put o.dst (.tuple #[z, .bool false])) w) : wpList P ops Q (o :: rest) a w := by
  refine wpList_plain hg fun K' hK' => ?_
  have hrun := h.look_none K ht hkey hz hn
  unfold Oper.wp
  simp [execOp, hop, hm, hx, hrun, Result.andThen]
  exact hK' _ _ hK
theorem wpList_put {ops : Array Oper} {rest : List Oper} {o : Oper} {a : Act} {Q : Exit → Act → World → Prop} (hg : o.guard = none) (m x v : Operand) (t : TypeId) (hop : o.op = Op.mapUpdate t m x v ∨ o.op = Op.insert t m x v)
    (K : Keyed P k) (ht : P.underlying t = some (.map k e)) (hm : a.eval m = .map (some b)) (h : MapIs P k w b L) (xv vv : Value) (lx : Lit) (hx : a.eval x = xv) (hv : a.eval v = vv) (hkey : keyOf P k xv = some lx) (hn : ∀ p ∈ L, p.1 ≠ xv)
    (hK : ∀ w', MapIs P k w' b (L ++ [(xv, vv)]) → w.grownBy w' (some b) → wpList P ops Q rest (a.put o.dst undef) w') : wpList P ops Q (o :: rest) a w := by
  refine wpList_plain hg fun K' hK' => ?_
  obtain ⟨w', hrun, h1, h2⟩ := h.put (v := vv) K ht hkey hn
  unfold Oper.wp
  rcases hop with hop | hop
  · simp [execOp, hop, hm, hx, hv, hrun, Result.andThen]
    exact hK' _ _ (hK w' h1 h2)
  · simp [execOp, hop, hm, hx, hv, hrun, Result.andThen]
    exact hK' _ _ (hK w' h1 h2)
/-- How many it holds. -/
theorem wpList_mlen {ops : Array Oper} {rest : List Oper} {o : Oper} {a : Act} {Q : Exit → Act → World → Prop} (hg : o.guard = none) (m : Operand) (t : TypeId) (hop : o.op = .call { callee := .builtin .len, args := #[m], argTypes := #[t] })
    (ht : P.underlying t = some (.map k e)) (hm : a.eval m = .map (some b)) (h : MapIs P k w b L) (n : Nat) (hn : L.length = n) (hK : wpList P ops Q rest (a.put o.dst (.int .i64 (n : Int))) w) : wpList P ops Q (o :: rest) a w := by
  refine wpList_plain hg fun K' hK' => ?_
  obtain ⟨es, clock, hb, he⟩ := h.ex
  have hl : es.size = n := by rw [← hn, ← he]; simp
  unfold Oper.wp
  simp [execOp, hop, resolve, invoke, builtin, Builtin.len_, Builtin.lenOf, hm, run_underlying ht, MapKept.run_getObj_map hb, hl, Result.andThen, goInt]
  exact hK' _ _ hK
/-- A variable that is made, of any type. -/
theorem wpList_made {ops : Array Oper} {rest : List Oper} {o : Oper} {a : Act} {Q : Exit → Act → World → Prop} (hg : o.guard = none) (t : TypeId) (hop : o.op = .alloc t) (z : Value) (hz : (zeroValue t).run P w = .ok z w)
    (hK : wpList P ops Q rest (a.put o.dst (.pointer (some ⟨w.heap.size, 0, none⟩))) (w.alloc (.cells z.cells t))) : wpList P ops Q (o :: rest) a w := by
  refine wpList_plain hg fun K' hK' => ?_
  unfold Oper.wp
  simp [execOp, hop, Instr.alloc, hz, newVar, newRow, Result.andThen]
  exact hK' _ _ hK

theorem MapIs.look_some1 (h : MapIs P k w b L) (K : Keyed P k) (ht : P.underlying t = some (.map k e)) {x v : Value} {lx : Lit} (hkey : keyOf P k x = some lx) (hm : (x, v) ∈ L) :
    (Instr.lookup t (.map (some b)) x false).run P w = .ok v w := by
  obtain ⟨es, clock, hb, he⟩ := h.ex
  rcases K.find w hkey es.toList (h.keys he) with ⟨h1, h2⟩ | ⟨j, e0, h1, h2, h3⟩
  · rw [← he] at hm
    obtain ⟨y, hy, hyx⟩ := List.mem_map.1 hm
    injection hyx with e1 _
    exact absurd e1 (h2 y hy)
  · have hv : e0.val = v := pair_val h.apart (by rw [← h3]; exact MapIs.entry he (List.mem_of_getElem? h2)) hm
    simp [Instr.lookup, run_underlying ht, MapKept.run_getObj_map hb, K.check w _ hkey, h1, hv, Result.andThen]
theorem MapIs.look_none1 (h : MapIs P k w b L) (K : Keyed P k) (ht : P.underlying t = some (.map k e)) {x z : Value} {lx : Lit} (hkey : keyOf P k x = some lx) (hz : (zeroValue e).run P w = .ok z w) (hn : ∀ p ∈ L, p.1 ≠ x) :
    (Instr.lookup t (.map (some b)) x false).run P w = .ok z w := by
  obtain ⟨es, clock, hb, he⟩ := h.ex
  rcases K.find w hkey es.toList (h.keys he) with ⟨h1, h2⟩ | ⟨j, e0, h1, h2, h3⟩
  · simp [Instr.lookup, run_underlying ht, MapKept.run_getObj_map hb, K.check w _ hkey, h1, hz, Result.andThen]
  · exact absurd h3 (hn _ (MapIs.entry he (List.mem_of_getElem? h2)))
/-- A key that is there has another value. -/
theorem MapIs.change (h : MapIs P k w b L) (K : Keyed P k) (ht : P.underlying t = some (.map k e)) {x u v : Value} {lx : Lit} (hkey : keyOf P k x = some lx) {j : Nat} (hj : L[j]? = some (x, u)) :
    ∃ w', (Instr.mapUpdate t (.map (some b)) x v).run P w = .ok () w' ∧ MapIs P k w' b (L.set j (x, v)) ∧ w.grownBy w' (some b) := by
  obtain ⟨es, clock, hb, he⟩ := h.ex
  have hlen : L.length = es.size := by rw [← he]; simp
  have hjL := (List.getElem?_eq_some_iff.1 hj).1
  rcases K.find w hkey es.toList (h.keys he) with ⟨h1, h2⟩ | ⟨j', e0, h1, h2, h3⟩
  · have hm := List.mem_of_getElem? hj
    rw [← he] at hm
    obtain ⟨y, hy, hyx⟩ := List.mem_map.1 hm
    injection hyx with e1 _
    exact absurd e1 (h2 y hy)
  · have hjj : j = j' := by
      refine (List.getElem?_inj (by rw [List.length_map]; exact hjL) h.apart).1 ?_
      rw [List.getElem?_map, hj, ← he, List.getElem?_map, List.getElem?_map, h2]
      simp [h3]
    subst hjj
    have h2' : es[j]? = some e0 := by rw [← Array.getElem?_toList]; exact h2
    have hjs := (Array.getElem?_eq_some_iff.1 h2').1
    have hkeep : ∀ (w : World), (Instr.keyThatStays (((es[j]?).map (·.key)).getD x) x).run P w = .ok x w := fun w => by
      rw [h2']
      show (Instr.keyThatStays e0.key x).run P w = _
      rw [h3]
      exact K.stays w hkey
    refine ⟨setBlock w b (.map (es.modify j fun e => { e with key := x, val := v }) clock), ?_, ⟨⟨_, _, heap_setBlock_same hb _, ?_⟩, ?_, ?_⟩, ⟨rfl, rfl, rfl, by simp [setBlock], fun i _ hi => heap_setBlock_other hb _ (fun e => hi (by rw [e]))⟩⟩
    · have hk2 := K.stays w hkey
      simp [Instr.mapUpdate, run_underlying ht, MapKept.run_getObj_map hb, K.check w _ hkey, h1, h2', h3, hk2, MapKept.run_setObj_map _ hb, Result.andThen, setBlock]
    · refine List.ext_getElem? fun i => ?_
      rw [List.getElem?_map, Array.getElem?_toList, Array.getElem?_modify, List.getElem?_set, ← he, List.length_map, Array.length_toList, List.getElem?_map, Array.getElem?_toList]
      by_cases hi : j = i
      · subst hi
        rw [if_pos rfl, if_pos rfl, if_pos hjs, h2']
        rfl
      · rw [if_neg hi, if_neg hi]
    · intro p hp
      rcases List.mem_or_eq_of_mem_set hp with hp | hp
      · exact h.keyed p hp
      · subst hp; exact ⟨lx, hkey⟩
    · have e2 : (L.set j (x, v)).map (·.1) = L.map (·.1) := by
        rw [List.map_set]
        refine List.ext_getElem? fun i => ?_
        rw [List.getElem?_set]
        split
        · rename_i hi
          subst hi
          rw [List.getElem?_map, hj, List.length_map, if_pos hjL]
          rfl
        · rfl
      rw [e2]
      exact h.apart
theorem wpList_look_some1 {ops : Array Oper} {rest : List Oper} {o : Oper} {a : Act} {Q : Exit → Act → World → Prop} (hg : o.guard = none) (m x : Operand) (t : TypeId) (hop : o.op = Op.lookup t m x false)
    (K : Keyed P k) (ht : P.underlying t = some (.map k e)) (hm : a.eval m = .map (some b)) (h : MapIs P k w b L) (xv v : Value) (lx : Lit) (hx : a.eval x = xv) (hkey : keyOf P k xv = some lx) (hmem : (xv, v) ∈ L)
    (hK : wpList P ops Q rest (a.put o.dst v) w) : wpList P ops Q (o :: rest) a w := by
  refine wpList_plain hg fun K' hK' => ?_
  have hrun := h.look_some1 K ht hkey hmem
  unfold Oper.wp
  simp [execOp, hop, hm, hx, hrun, Result.andThen]
  exact hK' _ _ hK
theorem wpList_look_none1 {ops : Array Oper} {rest : List Oper} {o : Oper} {a : Act} {Q : Exit → Act → World → Prop} (hg : o.guard = none) (m x : Operand) (t : TypeId) (hop : o.op = Op.lookup t m x false)
    (K : Keyed P k) (ht : P.underlying t = some (.map k e)) (hm : a.eval m = .map (some b)) (h : MapIs P k w b L) (xv z : Value) (lx : Lit) (hx : a.eval x = xv) (hkey : keyOf P k xv = some lx) (hz : (zeroValue e).run P w = .ok z w) (hn : ∀ p ∈ L, p.1 ≠ xv)
    (hK : wpList P ops Q rest (a.put o.dst z) w) : wpList P ops Q (o :: rest) a w := by
  refine wpList_plain hg fun K' hK' => ?_
  have hrun := h.look_none1 K ht hkey hz hn
  unfold Oper.wp
  simp [execOp, hop, hm, hx, hrun, Result.andThen]
  exact hK' _ _ hK
theorem wpList_change {ops : Array Oper} {rest : List Oper} {o : Oper} {a : Act} {Q : Exit → Act → World → Prop} (hg : o.guard = none) (m x v : Operand) (t : TypeId) (hop : o.op = Op.mapUpdate t m x v ∨ o.op = Op.insert t m x v)
    (K : Keyed P k) (ht : P.underlying t = some (.map k e)) (hm : a.eval m = .map (some b)) (h : MapIs P k w b L) (xv vv : Value) (lx : Lit) (hx : a.eval x = xv) (hv : a.eval v = vv) (hkey : keyOf P k xv = some lx) (j : Nat) (u : Value) (hj : L[j]? = some (xv, u))
    (hK : ∀ w', MapIs P k w' b (L.set j (xv, vv)) → w.grownBy w' (some b) → wpList P ops Q rest (a.put o.dst undef) w') : wpList P ops Q (o :: rest) a w := by
  refine wpList_plain hg fun K' hK' => ?_
  obtain ⟨w', hrun, h1, h2⟩ := h.change (v := vv) K ht hkey hj
  unfold Oper.wp
  rcases hop with hop | hop
  · simp [execOp, hop, hm, hx, hv, hrun, Result.andThen]
    exact hK' _ _ (hK w' h1 h2)
  · simp [execOp, hop, hm, hx, hv, hrun, Result.andThen]
    exact hK' _ _ (hK w' h1 h2)
end
theorem keyed9 : Keyed Tryd.prog 9 := Maps.string_keyed Tryd.underlying9
theorem wf_i64 {a : Int} (h0 : -9223372036854775808 ≤ a) (h1 : a ≤ 9223372036854775807) : (Lit.int .i64 a).wf = true := by
  simp [Lit.wf, IntKind.min, IntKind.max, IntKind.signed, IntKind.bits]; omega
end Go.Proofs.YtjpbhbfklkipkaaDoor
