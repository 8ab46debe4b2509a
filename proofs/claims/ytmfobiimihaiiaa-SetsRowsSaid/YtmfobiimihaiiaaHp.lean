/- Rows of symbols that are put together. -/
import Derived.Laws.AppendOwnNone
import Derived.Test.YtmfobiimihaiiaaHq
namespace Go.Proofs.Ytmfobiimihaiiaa
open Go Go.RowKit Go.Lib Go.Joins

theorem info42 : (Try.prog.info? 42).map (fun i => (i.zero, i.size, i.bytes)) = some (some (.int .i64 0), 1, 8) := by kernel_rfl

theorem ints_of_own {w : World} {base : Nat} {v : Value} {n : Nat} {l : List Int} (h : w.ownsRow base 42 1 v n (l.map (.int .i64))) (hn : n ≤ 9223372036854775807) (hr : ∀ x ∈ l, -9223372036854775808 ≤ x ∧ x ≤ 9223372036854775807) : IntsAt w v l := by
  have hl : l.length = n := by have := h.1; simpa using this
  obtain ⟨_, ⟨rfl, h0⟩ | ⟨g, cap, cur, rfl, _, hg, _, _, _, ht⟩⟩ := h
  · exact ⟨⟨none, 0, by rw [hl, h0], by omega, fun h => by omega⟩, hr⟩
  · refine ⟨⟨_, cap, by rw [hl], by omega, fun _ => ⟨g, 0, rfl, fun i hi => ?_⟩⟩, hr⟩
    have h1 := cell_of_block hg (0 + i)
    have h2 : (cur.toList.take (n * 1))[i]? = (l.map (Value.int .i64))[i]? := by rw [ht]
    rw [List.getElem?_take_of_lt (by omega), List.getElem?_map, List.getElem?_eq_getElem hi] at h2
    show w.cell? ⟨g, 0 + i, none⟩ = some (.int .i64 (l.getD i 0))
    rw [h1, Nat.zero_add, ← Array.getElem?_toList, h2, List.getD_eq_getElem?_getD, List.getElem?_eq_getElem hi]
    rfl

theorem ints_cells {w : World} {A : Option Addr} {m c : Nat} {l : List Int} (h : IntsAt w (.slice A m c) l) : ∀ i, i < m → ∃ b off, A = some ⟨b, off, none⟩ ∧ w.cell? ⟨b, off + i, none⟩ = some (.int .i64 (l.getD i 0)) := by
  obtain ⟨⟨A', c', e, _, hc⟩, _⟩ := h
  cases e
  exact fun i hi => let ⟨b, off, hA, hcc⟩ := hc (by omega); ⟨b, off, hA, hcc i hi⟩

theorem app_syms {w : World} {ops : Array Oper} {rest : List Oper} {o : Oper} {a : Act} {Q : Exit → Act → World → Prop} (hgd : o.guard = none) (s x : Operand)
    (ho : o.op = .call { callee := .builtin .append, args := #[s, x], argTypes := #[28, 28] }) (base : Nat) (v : Value) (n : Nat) (xs : List Value) (hs : a.eval s = v) (hown : w.ownsRow base 42 1 v n xs)
    (A : Option Addr) (m c : Nat) (l : List Int) (hx : a.eval x = .slice A m c) (hml : l.length = m) (hl : ∀ i, i < m → ∃ b off, A = some ⟨b, off, none⟩ ∧ w.cell? ⟨b, off + i, none⟩ = some (.int .i64 (l.getD i 0))) (hA : A = none → c = 0) (hn : n + m ≤ 1000000) (hbase : base ≤ w.heap.size)
    (h : ∀ v' w', w'.ownsRow base 42 1 v' (n + m) (xs ++ l.map (.int .i64)) → Below base w w' → wpList Try.prog ops Q rest (a.put o.dst v') w') : wpList Try.prog ops Q (o :: rest) a w := by
  obtain ⟨i0, hi, hz0, hz1, hz2⟩ := info_parts info42
  cases A with
  | none =>
    have hm0 : m = 0 := Nat.eq_zero_of_not_pos fun hp => by obtain ⟨_, _, e, _⟩ := hl 0 hp; cases e
    subst hm0
    obtain rfl : l = [] := List.eq_nil_of_length_eq_zero hml
    rw [hA rfl] at hx
    exact wpList_append_own_none hgd s x 28 ho base 42 i0 1 Try.underlying28 hi v n xs hs hown hx (h v w (by simpa using hown) (Below.refl _ _))
  | some ad =>
    refine wpList_append_own w hgd s x 28 ho base 42 i0 (.int .i64 0) 1 8 Try.underlying28 hi hz0 hz1 hz2 rfl (by decide) v n xs hs hown ad m c (l.map (.int .i64)) hx (by simp [hml]) ?_ ?_ (by unfold maxLen; omega) (by omega) hbase ?_
    · intro j u hj
      rw [List.getElem?_map] at hj
      have hjl : j < l.length := by
        rcases Nat.lt_or_ge j l.length with h1 | h1
        · exact h1
        · rw [List.getElem?_eq_none h1] at hj; cases hj
      rw [List.getElem?_eq_getElem hjl] at hj
      obtain ⟨b, off, e, hc⟩ := hl j (by omega)
      cases e
      rw [Go.WideShapes.add_plain, hc, List.getD_eq_getElem?_getD, List.getElem?_eq_getElem hjl]
      exact hj
    · intro u hu
      obtain ⟨z, _, rfl⟩ := List.mem_map.1 hu
      rfl
    · intro v' w' h2 h3 _
      exact h v' w' h2 ((Below.refl _ _).grown h3 hbase fun k hk => (hown.lt k hk).1)

end Go.Proofs.Ytmfobiimihaiiaa
