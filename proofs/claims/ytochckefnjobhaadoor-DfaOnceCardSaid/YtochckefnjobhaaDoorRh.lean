/- regex's reader: whether a byte comes, in one contract; how a regex lies in memory. -/
import Derived.Test.YtochckefnjobhaaDoorRg
namespace Go.Proofs.YtochckefnjobhaaDoor
open Go Go.RowKit Go.Lib
set_option linter.unusedVariables false

theorem passed_any (b : Nat) (s : ByteArray) (c : Nat) (i : Nat) (w : World) (h : Rd b s i w) (hs : s.size ≤ maxLen) (hi : i ≤ s.size) :
    Calls Tryd.prog 72 #[.pointer (some ⟨b, 0, none⟩), .int .u8 (c : Int)] w fun e w' =>
      e = .returned (.bool (X3.passed (LL s) i c)) ∧ (Rd b s (if X3.passed (LL s) i c then i + 1 else i) w' ∧ Gr b w w') := by
  by_cases hlt : i < s.size
  · have e : X3.passed (LL s) i c = decide ((s[i]'hlt).toNat = c) := by unfold X3.passed; rw [ll_at hlt]
    rw [e]
    by_cases hc : (s[i]'hlt).toNat = c
    · subst hc
      simp only [decide_true, if_true]
      exact passed_yes b s i w h hs hlt
    · simp only [hc, decide_false]
      exact passed_no b s c i w h hs hlt (by omega)
  · obtain rfl : i = s.size := by omega
    have e : X3.passed (LL s) s.size c = false := by unfold X3.passed; rw [ll_end]
    rw [e]
    exact passed_end b s c w h hs

theorem passed_le {s : ByteArray} {i c : Nat} (h : X3.passed (LL s) i c = true) : i + 1 ≤ s.size := by
  have := X3.passed_lt h
  have e : (LL s).length = s.size := rfl
  omega

theorem gr_new {b k : Nat} {w w' : World} (h : Gr b w w') (hk : w.heap.size ≤ k) (i : Nat) (v : Value) : Gr b w (w'.setCell ⟨k, i, none⟩ v) :=
  ⟨h.os, h.tape, h.output, by have := h.size; simpa using this, fun j hj hne => (Below.heap_setCell _ _ _ j (by show j ≠ k; omega)).trans (h.block j hj hne)⟩
theorem gr_alloc {b : Nat} {w w' : World} (h : Gr b w w') (o : Obj) : Gr b w (w'.alloc o) := World.grownBy.trans h (World.grownBy_alloc w' o _)

/-- Where a reader stands. -/
def posOf (b : Nat) (w : World) : Nat := match w.cell? ⟨b, 1, none⟩ with | some (.int _ n) => n.toNat | _ => 0
theorem posOf_rd {b : Nat} {s : ByteArray} {i : Nat} {w : World} (h : Rd b s i w) : posOf b w = i := by
  unfold posOf
  rw [Lib.cell_of_heap h]
  rfl

mutual
/-- A regex lies in memory as a value, in blocks of S. -/
inductive RepS (S : Nat → Prop) (w : World) : X3.RX → Value → Prop
  | empty : RepS S w .empty (nodeV 0 0 0 0 0 noKids)
  | bytes (x y z u : Nat) (hx : x < 2 ^ 64) (hy : y < 2 ^ 64) (hz : z < 2 ^ 64) (hu : u < 2 ^ 64) : RepS S w (.bytes x y z u) (nodeV 1 x y z u noKids)
  | cat (l : List X3.RX) (g cap : Nat) (h : RepLS S w l g 0) (hc : l.length ≤ cap) (hg : S g) (hw : g < w.heap.size) (h0 : l ≠ []) : RepS S w (.cat l) (nodeV 2 0 0 0 0 (.slice (some ⟨g, 0, none⟩) l.length cap))
  | alt (l : List X3.RX) (g cap : Nat) (h : RepLS S w l g 0) (hc : l.length ≤ cap) (hg : S g) (hw : g < w.heap.size) (h0 : l ≠ []) : RepS S w (.alt l) (nodeV 3 0 0 0 0 (.slice (some ⟨g, 0, none⟩) l.length cap))
  | star (r : X3.RX) (g cap : Nat) (h : RepLS S w [r] g 0) (hc : 1 ≤ cap) (hg : S g) (hw : g < w.heap.size) : RepS S w (.star r) (nodeV 4 0 0 0 0 (.slice (some ⟨g, 0, none⟩) 1 cap))
/-- A row of regexes lies in block g from the row's j-th place on. -/
inductive RepLS (S : Nat → Prop) (w : World) : List X3.RX → Nat → Nat → Prop
  | nil (g j : Nat) : RepLS S w [] g j
  | cons (r : X3.RX) (l : List X3.RX) (g j : Nat) (k x y z u : Int) (kv : Value) (h : RepS S w r (nodeV k x y z u kv))
      (c0 : w.cell? ⟨g, 6 * j, none⟩ = some (.int .i64 k)) (c1 : w.cell? ⟨g, 6 * j + 1, none⟩ = some (.int .u64 x)) (c2 : w.cell? ⟨g, 6 * j + 2, none⟩ = some (.int .u64 y))
      (c3 : w.cell? ⟨g, 6 * j + 3, none⟩ = some (.int .u64 z)) (c4 : w.cell? ⟨g, 6 * j + 4, none⟩ = some (.int .u64 u)) (c5 : w.cell? ⟨g, 6 * j + 5, none⟩ = some kv)
      (h2 : RepLS S w l g (j + 1)) : RepLS S w (r :: l) g j
end

/-- In blocks from B on. -/
abbrev Rep (B : Nat) (w : World) (r : X3.RX) (v : Value) : Prop := RepS (fun g => B ≤ g) w r v
abbrev RepL (B : Nat) (w : World) (l : List X3.RX) (g j : Nat) : Prop := RepLS (fun g => B ≤ g) w l g j
theorem Rep.empty {B : Nat} {w : World} : Rep B w .empty (nodeV 0 0 0 0 0 noKids) := RepS.empty
theorem Rep.bytes {B : Nat} {w : World} (x y z u : Nat) (hx : x < 2 ^ 64) (hy : y < 2 ^ 64) (hz : z < 2 ^ 64) (hu : u < 2 ^ 64) : Rep B w (.bytes x y z u) (nodeV 1 x y z u noKids) := RepS.bytes x y z u hx hy hz hu

/-- All of S lies there yet. -/
def KeepS (S : Nat → Prop) (w w' : World) : Prop := w.heap.size ≤ w'.heap.size ∧ ∀ g, S g → g < w.heap.size → w'.heap[g]? = w.heap[g]?
/-- All from block B on lies there yet. -/
abbrev Keep (B : Nat) (w w' : World) : Prop := KeepS (fun g => B ≤ g) w w'
theorem keep_below {B : Nat} {w w' : World} (h : Below w.heap.size w w') : Keep B w w' := ⟨h.size, fun g _ hg => h.block g hg⟩
theorem keepS_below {S : Nat → Prop} {w w' : World} (h : Below w.heap.size w w') : KeepS S w w' := ⟨h.size, fun g _ hg => h.block g hg⟩
theorem keep_gr {B b : Nat} {w w' : World} (hb : b < B) (h : Gr b w w') : Keep B w w' := ⟨h.size, fun g h1 h2 => h.block g h2 (fun e => by have := Option.some.inj e; have h1' : B ≤ g := h1; omega)⟩
theorem keepS_gr {S : Nat → Prop} {b : Nat} {w w' : World} (hb : ¬ S b) (h : Gr b w w') : KeepS S w w' := ⟨h.size, fun g h1 h2 => h.block g h2 (fun e => by have := Option.some.inj e; subst this; exact hb h1)⟩

mutual
/-- It lies there yet when that is kept. -/
theorem RepS.kept {S : Nat → Prop} {w w' : World} (hg : KeepS S w w') : ∀ {r : X3.RX} {v : Value}, RepS S w r v → RepS S w' r v
  | _, _, .empty => .empty
  | _, _, .bytes x y z u hx hy hz hu => .bytes x y z u hx hy hz hu
  | _, _, .cat l g cap h hc hn hw h0 => .cat l g cap (RepLS.kept hg hn hw h) hc hn (Nat.lt_of_lt_of_le hw hg.1) h0
  | _, _, .alt l g cap h hc hn hw h0 => .alt l g cap (RepLS.kept hg hn hw h) hc hn (Nat.lt_of_lt_of_le hw hg.1) h0
  | _, _, .star r g cap h hc hn hw => .star r g cap (RepLS.kept hg hn hw h) hc hn (Nat.lt_of_lt_of_le hw hg.1)
theorem RepLS.kept {S : Nat → Prop} {w w' : World} (hg : KeepS S w w') {g : Nat} (hn : S g) (hw : g < w.heap.size) : ∀ {l : List X3.RX} {j : Nat}, RepLS S w l g j → RepLS S w' l g j
  | _, _, .nil _ _ => .nil _ _
  | _, _, .cons r l _ j k x y z u kv h c0 c1 c2 c3 c4 c5 h2 =>
    have e : ∀ q, w'.cell? ⟨g, q, none⟩ = w.cell? ⟨g, q, none⟩ := fun q => World.cell?_of_block (hg.2 g hn hw)
    .cons r l g j k x y z u kv (RepS.kept hg h) ((e _).trans c0) ((e _).trans c1) ((e _).trans c2) ((e _).trans c3) ((e _).trans c4) ((e _).trans c5) (RepLS.kept hg hn hw h2)
end

mutual
theorem RepS.monoS {S S' : Nat → Prop} {w : World} (hB : ∀ g, S g → g < w.heap.size → S' g) : ∀ {r : X3.RX} {v : Value}, RepS S w r v → RepS S' w r v
  | _, _, .empty => .empty
  | _, _, .bytes x y z u hx hy hz hu => .bytes x y z u hx hy hz hu
  | _, _, .cat l g cap h hc hn hw h0 => .cat l g cap (RepLS.monoS hB h) hc (hB _ hn hw) hw h0
  | _, _, .alt l g cap h hc hn hw h0 => .alt l g cap (RepLS.monoS hB h) hc (hB _ hn hw) hw h0
  | _, _, .star r g cap h hc hn hw => .star r g cap (RepLS.monoS hB h) hc (hB _ hn hw) hw
theorem RepLS.monoS {S S' : Nat → Prop} {w : World} (hB : ∀ g, S g → g < w.heap.size → S' g) {g : Nat} : ∀ {l : List X3.RX} {j : Nat}, RepLS S w l g j → RepLS S' w l g j
  | _, _, .nil _ _ => .nil _ _
  | _, _, .cons r l _ j k x y z u kv h c0 c1 c2 c3 c4 c5 h2 => .cons r l g j k x y z u kv (RepS.monoS hB h) c0 c1 c2 c3 c4 c5 (RepLS.monoS hB h2)
end
theorem Rep.kept {B : Nat} {w w' : World} (hg : Keep B w w') {r : X3.RX} {v : Value} (h : Rep B w r v) : Rep B w' r v := RepS.kept hg h
theorem RepL.kept {B : Nat} {w w' : World} (hg : Keep B w w') {g : Nat} (hn : B ≤ g) (hw : g < w.heap.size) {l : List X3.RX} {j : Nat} (h : RepL B w l g j) : RepL B w' l g j := RepLS.kept hg hn hw h
theorem Rep.mono {B B' : Nat} {w : World} (hB : B' ≤ B) {r : X3.RX} {v : Value} (h : Rep B w r v) : Rep B' w r v := RepS.monoS (fun g hg _ => Nat.le_trans hB hg) h
theorem RepL.mono {B B' : Nat} {w : World} (hB : B' ≤ B) {g : Nat} {l : List X3.RX} {j : Nat} (h : RepL B w l g j) : RepL B' w l g j := RepLS.monoS (fun g hg _ => Nat.le_trans hB hg) h

/-- What a reader of a regex comes to. -/
def RP (b : Nat) (s : ByteArray) (w : World) (r : X3.PR X3.RX) (e : Ending) (w' : World) : Prop :=
  match r with
  | .ok r j => ∃ v, e = .returned v ∧ Rep w.heap.size w' r v ∧ (Rd b s j w' ∧ Gr b w w' ∧ j ≤ s.size)
  | .err c => e = flt c ∧ Gr b w w'

end Go.Proofs.YtochckefnjobhaaDoor
