/- What the walks of this seat share. -/
import Derived.BigQuiet
import Derived.WalkSmall
import Derived.Maps.AppendAt
import Derived.Laws.AppendOwn
import Derived.Test.YtjpbhbfklkipkaaDoorHb
import Derived.Test.YtjpbhbfklkipkaaDoorGd
import Derived.Test.YtjpbhbfklkipkaaDoorSm
namespace Go.Proofs.YtjpbhbfklkipkaaDoor
open Go Go.RowKit Go.Lib
open X14 (It)
set_option linter.unusedVariables false
set_option linter.unusedSimpArgs false
theorem below_drewN' {B : Nat} {a w : World} (h : Below B a w) (n : Nat) : Below B a (w.drewN n) := ⟨h.os, h.tape, h.output, h.size, h.block⟩
theorem wp_region_below {P : Program} {id : Nat} {Q : Exit → Act → World → Prop} {a : Act} {w : World} {l : List Oper} (hm : P.follows .mixedOrders = true) (hB : Region.lexB .any l.toArray = true)
    (h : wpQuiet P l.toArray (Below w.heap.size w) (fun a' => ∀ w', Below w.heap.size w w' → Q .normal a' w') l a) : (Code.region id l.toArray true).wp P Q a w :=
  wp_region_quiet (C := Below w.heap.size w) hm hB (below_drewN' (Below.refl _ _) 1) (by simpa using h)
theorem below_call {P : Program} {f : FuncId} {args : Array Value} {n : Nat} {w0 w' : World} {v : Value} (hC : Below n w0 w') (hn : n ≤ w0.heap.size) (h : Calls P f args w' fun e w'' => e = .returned v ∧ Below w'.heap.size w' w'') :
    Calls P f args w' fun e w'' => e = .returned v ∧ Below n w0 w'' :=
  h.mono fun _ _ ⟨he, hb⟩ => ⟨he, hC.trans (hb.mono (Nat.le_trans hn hC.size))⟩
theorem cell_bel {B : Nat} {W w : World} (h : Below B W w) {b off : Nat} {x : Value} (hb : b < B) (hx : W.cell? ⟨b, off, none⟩ = some x) : w.cell? ⟨b, off, none⟩ = some x := (World.cell?_of_block (a := ⟨b, off, none⟩) (h.block b hb)).trans hx
theorem owns_kept {w w' : World} {B : Nat} {e : TypeId} {sz : Nat} {v : Value} {n : Nat} {xs : List Value} (h : w.ownsRow B e sz v n xs) (hb : ∀ g, v.ownBlock = some g → w'.heap[g]? = w.heap[g]?) : w'.ownsRow B e sz v n xs := by
  refine ⟨h.1, ?_⟩
  rcases h.2 with hn | ⟨g, cap, cur, rfl, hB, hg, rest⟩
  · exact .inl hn
  · exact .inr ⟨g, cap, cur, rfl, hB, (hb g rfl).trans hg, rest⟩
theorem owns_lt {w : World} {B : Nat} {e : TypeId} {sz : Nat} {v : Value} {n : Nat} {xs : List Value} (h : w.ownsRow B e sz v n xs) (g : Nat) (hg : v.ownBlock = some g) : B ≤ g ∧ g < w.heap.size := by
  rcases h.2 with ⟨rfl, _⟩ | ⟨g', cap, cur, rfl, hB, hh, _⟩
  · cases hg
  · injection hg with hg; subst hg; exact ⟨hB, (Array.getElem?_eq_some_iff.1 hh).1⟩
theorem own_shape {w : World} {B n sz : Nat} {e : TypeId} {v : Value} {xs : List Value} (h : w.ownsRow B e sz v n xs) : ∃ o c, v = .slice o n c := by
  rcases h.2 with ⟨rfl, h0⟩ | ⟨g, cap, cur, rfl, _⟩
  · exact ⟨none, 0, by rw [h0]⟩
  · exact ⟨_, _, rfl⟩
theorem own_below {w w' : World} {B n sz : Nat} {e : TypeId} {v : Value} {xs : List Value} (h : w.ownsRow B e sz v n xs) (hb : Below w.heap.size w w') : w'.ownsRow B e sz v n xs :=
  owns_kept h fun g hg => hb.block g (owns_lt h g hg).2
theorem new_block (w : World) (o : Obj) : (w.alloc o).heap[w.heap.size]? = some o := heap_alloc_new _ _
theorem add_one_cell {b off j : Nat} : (⟨b, off, none⟩ : Addr).add j = ⟨b, off + j, none⟩ := by unfold Addr.add; split <;> simp_all
/-- All old blocks but one are as they were. -/
structure KeptX (m b : Nat) (W W' : World) : Prop where
  os : W'.os = W.os
  tape : W'.tape = W.tape
  output : W'.output = W.output
  size : W.heap.size ≤ W'.heap.size
  block : ∀ g, g < m → g ≠ b → W'.heap[g]? = W.heap[g]?
theorem KeptX.refl (m b : Nat) (W : World) : KeptX m b W W := ⟨rfl, rfl, rfl, Nat.le_refl _, fun _ _ _ => rfl⟩
theorem KeptX.trans {m b : Nat} {A B C : World} (h : KeptX m b A B) (k : KeptX m b B C) : KeptX m b A C := ⟨k.os.trans h.os, k.tape.trans h.tape, k.output.trans h.output, Nat.le_trans h.size k.size, fun g h1 h2 => (k.block g h1 h2).trans (h.block g h1 h2)⟩
theorem KeptX.below {m b : Nat} {A B C : World} (h : KeptX m b A B) (hm : m ≤ B.heap.size) (k : Below B.heap.size B C) : KeptX m b A C := h.trans ⟨k.os, k.tape, k.output, k.size, fun g h1 _ => k.block g (by omega)⟩
theorem KeptX.bel {m b n : Nat} {A B C : World} (h : KeptX m b B C) (k : Below n A B) (hn : n ≤ m) (hb : n ≤ b) : Below n A C := ⟨h.os.trans k.os, h.tape.trans k.tape, h.output.trans k.output, Nat.le_trans k.size h.size, fun g hg => (h.block g (by omega) (by omega)).trans (k.block g hg)⟩
theorem set_two {W : World} {b : Nat} {u v : Value} {e : TypeId} (h : W.heap[b]? = some (.cells #[u, v] e (0, 0))) (x y : Value) :
    ((W.setCell ⟨b, 0, none⟩ x).setCell ⟨b, 1, none⟩ y).heap[b]? = some (.cells #[x, y] e (0, 0)) ∧ ∀ {m : Nat}, KeptX m b W ((W.setCell ⟨b, 0, none⟩ x).setCell ⟨b, 1, none⟩ y) := by
  have h1 : (W.setCell ⟨b, 0, none⟩ x).heap[b]? = some (.cells #[x, v] e (0, 0)) := heap_setCell_same W b 0 #[u, v] e x h
  refine ⟨heap_setCell_same _ b 1 #[x, v] e y h1, fun {m} => ⟨rfl, rfl, rfl, by simp, fun g _ hg => (Below.heap_setCell _ _ _ _ hg).trans (Below.heap_setCell _ _ _ _ hg)⟩⟩
/-- Items as cells. -/
def icells (l : List It) : List Value := l.flatMap fun x => [.int .i64 x.1, .int .i64 x.2]
theorem icells_snoc (l : List It) (x : It) : icells (l ++ [x]) = icells l ++ [.int .i64 x.1, .int .i64 x.2] := by simp [icells]
theorem icells_len (l : List It) : (icells l).length = l.length * 2 := by
  induction l with
  | nil => rfl
  | cons x l ih =>
    have e : icells (x :: l) = .int .i64 x.1 :: .int .i64 x.2 :: icells l := rfl
    rw [e, List.length_cons, List.length_cons, ih, List.length_cons]; omega
theorem icells_get : ∀ (l : List It) (i : Nat) (h : i < l.length), (icells l)[i * 2]? = some (.int .i64 l[i].1) ∧ (icells l)[i * 2 + 1]? = some (.int .i64 l[i].2)
  | x :: l, 0, _ => ⟨rfl, rfl⟩
  | x :: l, i + 1, h => by
    have := icells_get l i (by simpa using h)
    have e : icells (x :: l) = .int .i64 x.1 :: .int .i64 x.2 :: icells l := rfl
    rw [e, show (i + 1) * 2 = i * 2 + 1 + 1 by omega, show i * 2 + 1 + 1 + 1 = (i * 2 + 1) + 1 + 1 by omega]
    simpa using this
theorem items_own {w : World} {B c n : Nat} {e : TypeId} {o : Option Addr} {l : List It} (h : w.ownsRow B e 2 (.slice o n c) n (icells l)) {i : Nat} (hi : i < l.length) (hn : l.length = n) : ∃ g, o = some ⟨g, 0, none⟩ ∧ g < w.heap.size ∧ w.cell? ⟨g, i * 2, none⟩ = some (.int .i64 l[i].1) ∧ w.cell? ⟨g, i * 2 + 1, none⟩ = some (.int .i64 l[i].2) := by
  subst hn
  obtain ⟨k0, k1⟩ := icells_get l i hi
  rcases h.2 with ⟨h1, h0⟩ | ⟨g, cap, cur, h1, hB, hg, h2, h3, h4, h5⟩
  · omega
  · injection h1 with h1
    subst h1
    refine ⟨g, rfl, (Array.getElem?_eq_some_iff.1 hg).1, ?_, ?_⟩
    · rw [Lib.cell_of_heap hg, ← Array.getElem?_toList, ← List.getElem?_take_of_lt (show i * 2 < l.length * 2 by omega), h5, k0]
    · rw [Lib.cell_of_heap hg, ← Array.getElem?_toList, ← List.getElem?_take_of_lt (show i * 2 + 1 < l.length * 2 by omega), h5, k1]
theorem info37 : (Tryd.prog.info? 37).map (fun i => (i.zero, i.size, i.bytes)) = some (some (.agg #[.int .i64 0, .int .i64 0]), 2, 16) := by kernel_rfl
/-- One item more. -/
theorem wpList_push37 {ops : Array Oper} {rest : List Oper} {o : Oper} {a : Act} {w : World} {Q : Exit → Act → World → Prop} (hgd : o.guard = none) (s x : Operand) (ho : o.op = .call { callee := .builtin .append, args := #[s, x], argTypes := #[28, 28] })
    (base : Nat) (v : Value) (n : Nat) (xs : List Value) (hs : a.eval s = v) (hown : w.ownsRow base 37 2 v n xs) (g : Nat) (hx : a.eval x = .slice (some ⟨g, 0, none⟩) 1 1) (p q : Int) (hb : w.heap[g]? = some (.cells #[.int .i64 p, .int .i64 q] 37 (0, 0))) (hn : n ≤ 1000000) (hbase : base ≤ w.heap.size)
    (h : ∀ v' w', w'.ownsRow base 37 2 v' (n + 1) (xs ++ [.int .i64 p, .int .i64 q]) → w.grownBy w' v.ownBlock → (v'.ownBlock = v.ownBlock ∨ v'.ownBlock = some w.heap.size) → wpList Tryd.prog ops Q rest (a.put o.dst v') w') : wpList Tryd.prog ops Q (o :: rest) a w := by
  obtain ⟨i, hi, h0, h1, h2⟩ := info_parts info37
  refine wpList_append_own_at w hgd s x 28 ho base 37 i _ 2 16 Tryd.underlying28 hi h0 h1 h2 rfl (by decide) v n xs hs hown ⟨g, 0, none⟩ 1 1 [.int .i64 p, .int .i64 q] hx rfl (fun j u hj => ?_) (fun u hu => ?_) (by unfold maxLen; omega) ?_ hbase (fun v' w' a1 a2 _ a4 => h v' w' a1 a2 a4)
  · rw [add_one_cell, Nat.zero_add, Lib.cell_of_heap hb, ← hj]
    simp
  · simp at hu; rcases hu with rfl | rfl <;> rfl
  · omega
end Go.Proofs.YtjpbhbfklkipkaaDoor
