/- A document without a parser: New, Edit, Text, Parser and Result, as the document's example asks them. -/
import Derived.Defers
import Derived.RangeFuncBox
import Derived.Laws.NewBlocks
import Derived.Test.YtjjclppepkljkaaDb
namespace Go.Proofs.Ytjjclppepkljkaa
open Go Go.RowKit Go.Lib

/-- A document in memory. -/
def DocAt (W : World) (B : Nat) (t : ByteArray) : Prop := W.heap[B]? = some (.cells #[.pointer none, .string t, .pointer none] 42 (0, 0))

theorem DocAt.cells {W : World} {B : Nat} {t : ByteArray} (h : DocAt W B t) :
    W.cell? ⟨B, 0, none⟩ = some (.pointer none) ∧ W.cell? ⟨B, 1, none⟩ = some (.string t) ∧ W.cell? ⟨B, 2, none⟩ = some (.pointer none) ∧ (∀ o, W.frozen? ⟨B, o, none⟩ = false) := by
  refine ⟨?_, ?_, ?_, fun o => ?_⟩ <;> simp [World.cell?, World.frozen?, show W.heap[B]? = _ from h]

theorem DocAt.text {W : World} {B : Nat} {t : ByteArray} (h : DocAt W B t) (r : ByteArray) : DocAt (W.setCell ⟨B, 1, none⟩ (.string r)) B r := by
  obtain ⟨hlt, hk⟩ := Array.getElem?_eq_some_iff.1 h
  show (W.heap.modify B _)[B]? = _
  rw [Array.getElem?_eq_getElem (by rw [Array.size_modify]; exact hlt), Array.getElem_modify_self, hk]
  rfl
theorem DocAt.none {W : World} {B : Nat} {t : ByteArray} (h : DocAt W B t) : DocAt (W.setCell ⟨B, 2, Option.none⟩ (.pointer Option.none)) B t := by
  obtain ⟨hlt, hk⟩ := Array.getElem?_eq_some_iff.1 h
  show (W.heap.modify B _)[B]? = _
  rw [Array.getElem?_eq_getElem (by rw [Array.size_modify]; exact hlt), Array.getElem_modify_self, hk]
  rfl

theorem New_nil (t : ByteArray) (w : World) : Calls Try.prog 8 #[.pointer none, .string t] w fun e w' => e = .returned (.pointer (some ⟨w.heap.size, 0, none⟩)) ∧ DocAt w' w.heap.size t ∧ Below w.heap.size w w' ∧ w'.heap.size = w.heap.size + 1 := by
  go_enter Try.func8, Try.ntmps8
  go_wp2
  go_ret
  exact ⟨rfl, World.alloc_heap_new w _, (Below.refl _ _).alloc (Nat.le_refl _) _, by simp⟩

theorem Text_any (B : Nat) (t : ByteArray) (w : World) (h : DocAt w B t) : Calls Try.prog 10 #[.pointer (some ⟨B, 0, none⟩)] w fun e w' => e = .returned (.string t) ∧ w = w' := by
  obtain ⟨h0, h1, h2, hf⟩ := h.cells
  clear hf h0 h2
  go_enter Try.func10, Try.ntmps10
  go_wp2
  go_ret
  exact ⟨rfl, rfl⟩

theorem Parser_any (B : Nat) (t : ByteArray) (w : World) (h : DocAt w B t) : Calls Try.prog 11 #[.pointer (some ⟨B, 0, none⟩)] w fun e w' => e = .returned (.pointer none) ∧ w = w' := by
  obtain ⟨h0, h1, h2, hf⟩ := h.cells
  clear hf h1 h2
  go_enter Try.func11, Try.ntmps11
  go_wp2
  go_ret
  exact ⟨rfl, rfl⟩

theorem Edit1_deferred (B Bx : Nat) (v : Value) (u : FrameMode) (w : World) (hx : w.cell? ⟨Bx, 0, none⟩ = some (.pointer (some ⟨B, 0, none⟩))) (hc : w.cell? ⟨B, 2, none⟩ = some v) (hf : w.frozen? ⟨B, 2, none⟩ = false) :
    CallsD Try.prog 13 #[.pointer (some ⟨Bx, 0, none⟩)] u w fun e u' w' => u' = u ∧ (e = .returned (.tuple #[]) ∧ w' = w.setCell ⟨B, 2, none⟩ (.pointer none)) := by
  go_enter_d Try.func13, Try.ntmps13
  go_wp2
  go_end0
  exact ⟨rfl, rfl⟩

theorem Edit_bad (B : Nat) (t s : ByteArray) (a b : Int) (w : World) (h : DocAt w B t) (hab : a < 0 ∨ b < a ∨ (t.size : Int) < b) :
    Calls Try.prog 9 #[.pointer (some ⟨B, 0, none⟩), .int .i64 a, .int .i64 b, .string s] w fun e w' => e = .returned (.int .i64 1) ∧ Below w.heap.size w w' := by
  have hlt : B < w.heap.size := (Array.getElem?_eq_some_iff.1 h).1
  obtain ⟨h0, h1, h2, hf⟩ := (show DocAt (w.alloc (.cells #[.pointer (some ⟨B, 0, none⟩)] 28)) B t from (Below.heap_alloc _ _ _ hlt).trans h).cells
  clear hf h0 h2
  go_enter_defers Try.func9, Try.ntmps9
  go_wp2_with (go_at_call 6; refine (Put_bad t s a b _ hab).mono ?_; rintro e w' ⟨rfl, n, rfl⟩)
  exact ⟨_, results_tmp rfl _ _ _, rfl, below_drewN ((Below.refl _ _).alloc (Nat.le_refl _) _) n⟩

theorem Edit_ok (B : Nat) (t s : ByteArray) (a b : Nat) (w : World) (h : DocAt w B t) (h2 : (a : Int) ≤ b) (h3 : (b : Int) ≤ (t.size : Int)) (ht : (t.size : Int) ≤ 1000000) (hs : (s.size : Int) ≤ 1000000) (hm : (t.size : Int) - ((b : Int) - a) + (s.size : Int) ≤ 20000) :
    Calls Try.prog 9 #[.pointer (some ⟨B, 0, none⟩), .int .i64 (a : Int), .int .i64 (b : Int), .string s] w fun e w' => e = .returned (.int .i64 0) ∧ DocAt w' B (t.extract 0 a ++ s ++ t.extract b t.size) ∧ Below B w w' := by
  have hlt : B < w.heap.size := (Array.getElem?_eq_some_iff.1 h).1
  have hmf : ∀ (fn : Fn) (first cap : Array Value) (w : World), (Instr.makeFunc fn first cap).run Try.prog w = .ok (.func fn first cap) w := fun _ _ _ _ => rfl
  obtain ⟨w1, hw1⟩ : ∃ w1, w.alloc (.cells #[.pointer (some ⟨B, 0, none⟩)] 28) = w1 := ⟨_, rfl⟩
  have hd : DocAt w1 B t := by rw [← hw1]; exact (Below.heap_alloc _ _ _ hlt).trans h
  have hx : w1.cell? ⟨w.heap.size, 0, none⟩ = some (.pointer (some ⟨B, 0, none⟩)) := by rw [← hw1]; simp
  have hb1 : Below B w w1 := by rw [← hw1]; exact (Below.refl _ _).alloc (by omega) _
  have hz1 : B < w1.heap.size := by rw [← hw1]; simp; omega
  obtain ⟨h0, h1, h2', hf⟩ := hd.cells
  have hf1 := hf 1
  have HF := hid hf
  have H2 := hid h2'
  have HD := hid hd
  clear hf h0 h2' hd
  go_enter_defers Try.func9, Try.ntmps9
  go_wp2_with (go_at_call 6; refine (Put_ok t s a b _ h2 h3 ht hs hm).mono ?_; rintro e w' ⟨rfl, n, rfl⟩)
  generalize hr : t.extract 0 a ++ s ++ t.extract b t.size = r at *
  have HD2 : DocAt (w1.drewN n) B t := HD.out
  have HD3 := HD2.text r
  have hx3 : ((w1.drewN n).setCell ⟨B, 1, none⟩ (.string r)).cell? ⟨w.heap.size, 0, none⟩ = some (.pointer (some ⟨B, 0, none⟩)) :=
    (World.cell?_of_block (Below.heap_setCell (w1.drewN n) ⟨B, 1, none⟩ (.string r) w.heap.size (by simp; omega))).trans hx
  refine leaves_cons (f := 13) (args := #[.pointer (some ⟨w.heap.size, 0, none⟩)]) (by simp) (by simp [go_sem]) ?_
  refine (Edit1_deferred B w.heap.size (.pointer none) .returning _ hx3 HD3.cells.2.2.1 (HD3.cells.2.2.2 2)).mono ?_
  rintro e u' w'' ⟨rfl, rfl, rfl⟩
  exact ⟨_, results_tmp rfl _ _ _, rfl, HD3.none, ((below_drewN hb1 n).setCell (p := ⟨B, 1, none⟩) (Nat.le_refl _) _).setCell (p := ⟨B, 2, none⟩) (Nat.le_refl _) _⟩

end Go.Proofs.Ytjjclppepkljkaa
