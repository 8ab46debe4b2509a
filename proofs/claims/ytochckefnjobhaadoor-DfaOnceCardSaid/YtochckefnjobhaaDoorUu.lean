/- Two bytes of one class go alike; a load of an automaton. -/
import Derived.Test.YtochckefnjobhaaDoorUs
namespace Go.Proofs.X5
set_option linter.unusedVariables false
theorem run_swap (D : Aut) (u t : List UInt8) (x y : UInt8) (h : D.cls.getD x.toNat 0 = D.cls.getD y.toNat 0) : runX D (u ++ x :: t) = runX D (u ++ y :: t) := by
  have e : goX D (u ++ x :: t) 0 = goX D (u ++ y :: t) 0 := by
    rw [goX_app, goX_app]
    show goX D t (behX D _ _) = goX D t (behX D _ _)
    unfold behX
    rw [h]
  unfold runX
  rw [e]
theorem go_neg (D : Aut) : ∀ (s : List UInt8) (a : Int), a < 0 → goX D s a < 0
  | [], a, h => h
  | b :: s, a, h => by
    rw [goX]
    refine go_neg D s _ ?_
    unfold behX
    rw [if_pos (.inl h)]
    omega
theorem go_bound (D : Aut) (hn : D.next ≠ []) : ∀ (s : List UInt8) (a : Int), -1 ≤ a ∧ a < (D.next.length : Int) → -1 ≤ goX D s a ∧ goX D s a < (D.next.length : Int)
  | [], a, h => h
  | b :: s, a, h => by
    rw [goX]
    exact go_bound D hn s _ ⟨beh_ge D a _, beh_lt D a _ hn⟩
theorem run_go (D : Aut) (ht : D.tags.length = D.next.length) (hn : D.next ≠ []) (s : List UInt8) {a : Nat} (h : goX D s 0 = (a : Int)) : a < D.tags.length ∧ runX D s = D.tags.getD a 0 := by
  have hp := List.length_pos_iff.2 hn
  have hb := go_bound D hn s 0 (by omega)
  rw [h] at hb
  refine ⟨by omega, ?_⟩
  unfold runX
  rw [h, if_neg (by omega), Int.toNat_natCast]
theorem run_neg (D : Aut) (s : List UInt8) (h : goX D s 0 < 0) : runX D s = 0 := by
  unfold runX
  rw [if_pos (.inl h)]
theorem go_snoc (D : Aut) (s : List UInt8) (k : Nat) (hk : k < s.length) (a : Int) : goX D (s.take (k + 1)) a = behX D (goX D (s.take k) a) (s[k]).toNat := by
  rw [List.take_succ_eq_append_getElem hk, goX_app]
  rfl
end Go.Proofs.X5

namespace Go.Proofs.YtochckefnjobhaaDoor
open Go Go.RowKit Go.Lib
open X3 (RX Pl)
open X5 (Aut)
set_option linter.unusedVariables false
set_option linter.unusedSimpArgs false
theorem exec_load30 {o : Oper} {a : Act} {w : World} (p : Operand) (hop : o.op = .load 30 p) (g : Nat) (hp : a.eval p = .pointer (some ⟨g, 0, none⟩)) (cs : Array Value) (hb : w.heap[g]? = some (.cells cs 30 (0, 0))) (h1 : cs.size = 258) :
    (execOp a.eval o).run Tryd.prog w = .ok (.value (.agg cs)) w := by
  unfold execOp
  simp only [hop, hp, Instr.loadAt, Instr.sureAddr, Sem.run_bind, Sem.run_pure, Result.andThen_ok, run_loadVar_row w g 30 30 cs (0, 0) _ hb Tryd.underlying30 rfl (by rw [size30, h1])]
/-- A text in which one byte is another one. -/
theorem LL_swap (s : ByteArray) (a : Nat) (ha : a < s.size) : LL s = (LL s).take a ++ s[a] :: (LL s).drop (a + 1) := by
  have h1 : a < (LL s).length := by simpa using ha
  have h2 : (LL s)[a] = s[a] := by simp [ByteArray.getElem_eq_getElem_data]
  rw [← h2, List.getElem_cons_drop, List.take_append_drop]
theorem LL_at (s : ByteArray) (k : Nat) (hk : k < s.size) : (LL s)[k]'(by simpa using hk) = s[k] := by simp [ByteArray.getElem_eq_getElem_data]
theorem go_byte (D : Aut) (s : ByteArray) (k : Nat) (hk : k < s.size) (a : Int) : X5.goX D ((LL s).take (k + 1)) a = X5.behX D (X5.goX D ((LL s).take k) a) (s[k]).toNat := by
  rw [X5.go_snoc D (LL s) k (by simpa using hk), LL_at s k hk]
/-- A row of one byte as a text. -/
theorem one_byte (w : World) (g b : Nat) (hb : b < 256) (h : w.heap[g]? = some (.cells #[.int .u8 (b : Int)] 5 (0, 0))) : (convert 49 9 (.slice (some ⟨g, 0, none⟩) 1 1)).run Tryd.prog w = .ok (.string ⟨#[UInt8.ofNat b]⟩) w := by
  have e : (UInt8.ofNat b).toNat = b := by simp [UInt8.toNat_ofNat, Nat.mod_eq_of_lt hb]
  exact conv49 w g _ [UInt8.ofNat b] ⟨by simp [Lib.byteCells], .inr ⟨g, 1, _, rfl, Nat.le_refl _, h, Nat.le_refl _, by decide, rfl, by simp [Lib.byteCells, e]⟩⟩
theorem list_cut (x : ByteArray) (i j : Nat) : (x.extract i j).data.toList = (x.data.toList.take j).drop i := by
  rw [ByteArray.data_extract, Array.toList_extract, List.extract_eq_take_drop, List.drop_take]
theorem LL_cut (s : ByteArray) (a : Nat) (ha : a < s.size) : LL s = LL (s.extract 0 a) ++ s[a] :: LL (s.extract (a + 1) s.size) := by
  have h := LL_swap s a ha
  have h1 : LL (s.extract 0 a) = (LL s).take a := by unfold LL; rw [list_cut, List.drop_zero]
  have h2 : LL (s.extract (a + 1) s.size) = (LL s).drop (a + 1) := by unfold LL; rw [list_cut, List.take_of_length_le (by simp)]
  rw [h1, h2]
  exact h
theorem cls_nat (l : List RX) (NX : List (List Int)) (TG : List Nat) (b : Nat) (hb : b < 256) : (⟨(clsX l).map fun (n : Nat) => (n : Int), NX, TG⟩ : Aut).cls.getD b 0 = (((clsX l).getD b 0 : Nat) : Int) := by
  have hlen : (clsX l).length = 256 := (cls_good l).1
  show ((clsX l).map fun (n : Nat) => (n : Int)).getD b 0 = _
  rw [List.getD_eq_getElem?_getD, List.getElem?_map, List.getElem?_eq_getElem (by omega), List.getD_eq_getElem?_getD, List.getElem?_eq_getElem (by omega)]; rfl
theorem LL_app (s t : ByteArray) : LL (s ++ t) = LL s ++ LL t := by simp
theorem LL_all (s : ByteArray) : (LL s).take s.size = LL s := List.take_of_length_le (by simp)
/-- The tags of a state, as they lie. -/
theorem tag_cells {w : World} {nv tv : Value} {D : Aut} (h : DAt w nv tv D) {dc : Array Value} (hdc : dval D nv tv = dc) {db i : Nat} (hd : w.heap[db]? = some (.cells dc 30 (0, 0))) (hi : i < D.tags.length) :
    ∃ tb off tc, w.cell? ⟨db, 257, none⟩ = some (.slice (some ⟨tb, off, none⟩) D.tags.length tc) ∧ tb < w.heap.size ∧ w.cell? ⟨tb, off + i, none⟩ = some (.int .u64 ((D.tags.getD i 0 : Nat) : Int)) ∧ D.tags.getD i 0 < 18446744073709551616 := by
  obtain ⟨to, tc, hto, ht⟩ := h.tags
  obtain ⟨tb, off, e, hb, hc, hl⟩ := ht i hi
  have c := dcell_tags h.len nv tv
  rw [hdc, hto, e] at c
  have eg : D.tags.getD i 0 = D.tags[i] := by rw [List.getD_eq_getElem?_getD, List.getElem?_eq_getElem hi]; rfl
  exact ⟨tb, off, tc, by rw [Lib.cell_of_heap hd, c], hb, by rw [eg]; exact hc, by rw [eg]; exact hl⟩
theorem dval_one (D : Aut) {nv tv : Value} (hn : nv.oneCell' = true) (ht : tv.oneCell' = true) : (dval D nv tv).all (·.oneCell') = true := by
  rw [Array.all_eq_true]
  intro i hi
  unfold dval ivs at *
  rw [Array.getElem_append]
  split
  · simp [Value.oneCell']
  · rename_i h
    simp only [Array.size_append, List.size_toArray, List.length_map, List.length_cons, List.length_nil] at hi h ⊢
    have h2 : i - D.cls.length = 0 ∨ i - D.cls.length = 1 := by omega
    rcases h2 with h2 | h2
    · simp [h2, hn]
    · simp [h2, ht]
end Go.Proofs.YtochckefnjobhaaDoor
