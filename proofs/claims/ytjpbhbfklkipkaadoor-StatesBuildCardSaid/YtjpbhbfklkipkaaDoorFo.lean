/- What a call holds, thing by thing; no two of them share memory. -/
import Derived.Test.YtjpbhbfklkipkaaDoorMa
namespace Go.Proofs.YtjpbhbfklkipkaaDoor
open Go Go.RowKit Go.Lib
set_option linter.unusedVariables false
set_option linter.unusedSimpArgs false

/-- A thing in memory: its blocks, what is told of it; it stays while its blocks stay. -/
structure Item where
  bl : List Nat
  ok : World → Prop
  kept : ∀ {w w' : World}, (∀ b ∈ bl, w'.heap[b]? = w.heap[b]?) → ok w → ok w'
/-- A step that touches no old blocks but these. -/
structure Touch (T : List Nat) (w w' : World) : Prop where
  os : w'.os = w.os
  tape : w'.tape = w.tape
  output : w'.output = w.output
  size : w.heap.size ≤ w'.heap.size
  block : ∀ g, g < w.heap.size → g ∉ T → w'.heap[g]? = w.heap[g]?
theorem Touch.grown {w w' : World} {o : Option Nat} (h : w.grownBy w' o) : Touch o.toList w w' :=
  ⟨h.os, h.tape, h.output, h.size, fun g hg hn => h.block g hg (fun e => hn (by rw [← e]; simp))⟩
theorem Touch.below {w w' : World} (h : Below w.heap.size w w') : Touch [] w w' := ⟨h.os, h.tape, h.output, h.size, fun g hg _ => h.block g hg⟩
theorem Touch.set (w : World) (b k : Nat) (v : Value) : Touch [b] w (w.setCell ⟨b, k, none⟩ v) :=
  ⟨rfl, rfl, rfl, by simp, fun g _ hn => Below.heap_setCell w ⟨b, k, none⟩ v g (fun e => hn (by simp [e]))⟩
theorem Touch.alloc (w : World) (o : Obj) : Touch [] w (w.alloc o) := Touch.below ((Below.refl _ _).alloc (Nat.le_refl _) o)
theorem Touch.mono {T T' : List Nat} {w w' : World} (h : Touch T w w') (hs : ∀ g ∈ T, g ∈ T') : Touch T' w w' := ⟨h.os, h.tape, h.output, h.size, fun g hg hn => h.block g hg fun k => hn (hs g k)⟩
theorem Touch.trans {T : List Nat} {w w' w'' : World} (h : Touch T w w') (k : Touch T w' w'') : Touch T w w'' :=
  ⟨k.os.trans h.os, k.tape.trans h.tape, k.output.trans h.output, Nat.le_trans h.size k.size, fun g hg hn => (k.block g (Nat.lt_of_lt_of_le hg h.size) hn).trans (h.block g hg hn)⟩

structure Foot (B : Nat) (W w : World) (l : List Item) : Prop where
  bel : Below B W w
  le : B ≤ W.heap.size
  ok : ∀ (i : Nat) x, l[i]? = some x → x.ok w
  lt : ∀ (i : Nat) x, l[i]? = some x → ∀ b ∈ x.bl, B ≤ b ∧ b < w.heap.size
  apart : ∀ (i j : Nat) x y b, l[i]? = some x → l[j]? = some y → b ∈ x.bl → b ∈ y.bl → i = j
theorem Foot.empty (w : World) (B : Nat) (h : B ≤ w.heap.size) : Foot B w w [] := ⟨Below.refl _ _, h, by simp, by simp, by simp⟩
theorem Touch.bel {B : Nat} {W w w' : World} {T : List Nat} (h : Touch T w w') (hb : Below B W w) (hB : B ≤ W.heap.size) (hT : ∀ b ∈ T, B ≤ b) : Below B W w' :=
  ⟨h.os.trans hb.os, h.tape.trans hb.tape, h.output.trans hb.output, Nat.le_trans hb.size h.size, fun g hg => (h.block g (by have := hb.size; omega) fun hn => by have := hT g hn; omega).trans (hb.block g hg)⟩
section
variable {B : Nat} {W w w' : World} {l : List Item} {x y z : Item} {i j : Nat}
/-- One thing is another one now, in the same blocks, or in new ones. -/
theorem Foot.upd (h : Foot B W w l) (i : Nat) {x : Item} (hx : l[i]? = some x) (y : Item) (ht : Touch x.bl w w') (hy : y.ok w') (hb : ∀ b ∈ y.bl, (b ∈ x.bl ∨ w.heap.size ≤ b) ∧ b < w'.heap.size) : Foot B W w' (l.set i y) where
  bel := ht.bel h.bel h.le fun b hb => (h.lt i x hx b hb).1
  le := h.le
  ok j u hu := by
    rw [List.getElem?_set] at hu
    by_cases e : i = j
    · rw [if_pos e] at hu
      split at hu
      · injection hu with hu; rw [← hu]; exact hy
      · cases hu
    · rw [if_neg e] at hu
      exact u.kept (fun b hb => ht.block b (h.lt j u hu b hb).2 fun k => e (h.apart i j x u b hx hu k hb)) (h.ok j u hu)
  lt j u hu b hbu := by
    rw [List.getElem?_set] at hu
    by_cases e : i = j
    · rw [if_pos e] at hu
      split at hu
      · injection hu with hu
        subst hu
        obtain ⟨h1, h2⟩ := hb b hbu
        refine ⟨?_, h2⟩
        rcases h1 with h1 | h1
        · exact (h.lt i x hx b h1).1
        · have := h.le; have := h.bel.size; omega
      · cases hu
    · rw [if_neg e] at hu
      have := h.lt j u hu b hbu
      have := ht.size
      omega
  apart j k u v b hu hv hbu hbv := by
    rw [List.getElem?_set] at hu hv
    by_cases e : i = j
    · by_cases e2 : i = k
      · omega
      · exfalso
        rw [if_pos e] at hu
        rw [if_neg e2] at hv
        split at hu
        · injection hu with hu
          subst hu
          rcases (hb b hbu).1 with h1 | h1
          · exact e2 (h.apart i k x v b hx hv h1 hbv)
          · have := (h.lt k v hv b hbv).2; omega
        · cases hu
    · rw [if_neg e] at hu
      by_cases e2 : i = k
      · exfalso
        rw [if_pos e2] at hv
        split at hv
        · injection hv with hv
          subst hv
          rcases (hb b hbv).1 with h1 | h1
          · exact e (h.apart i j x u b hx hu h1 hbu)
          · have := (h.lt j u hu b hbu).2; omega
        · cases hv
      · rw [if_neg e2] at hv
        exact h.apart j k u v b hu hv hbu hbv
theorem Foot.below (h : Foot B W w l) (hb : Below w.heap.size w w') : Foot B W w' l where
  bel := (Touch.below hb).bel h.bel h.le (by simp)
  le := h.le
  ok j u hu := u.kept (fun b hbu => hb.block b (h.lt j u hu b hbu).2) (h.ok j u hu)
  lt j u hu b hbu := by have := h.lt j u hu b hbu; have := hb.size; omega
  apart := h.apart
/-- One thing more, in new blocks. -/
theorem Foot.add (h : Foot B W w l) (y : Item) (hw : Below w.heap.size w w') (hy : y.ok w') (hb : ∀ b ∈ y.bl, w.heap.size ≤ b ∧ b < w'.heap.size) : Foot B W w' (l ++ [y]) where
  bel := (h.below hw).bel
  le := h.le
  ok j u hu := by
    rcases Nat.lt_or_ge j l.length with hj | hj
    · rw [List.getElem?_append_left hj] at hu; exact (h.below hw).ok j u hu
    · rw [List.getElem?_append_right hj] at hu
      have := (List.getElem?_eq_some_iff.1 hu).1
      simp at this
      rw [this] at hu
      injection hu with hu
      rw [← hu]; exact hy
  lt j u hu b hbu := by
    rcases Nat.lt_or_ge j l.length with hj | hj
    · rw [List.getElem?_append_left hj] at hu; exact (h.below hw).lt j u hu b hbu
    · rw [List.getElem?_append_right hj] at hu
      have := (List.getElem?_eq_some_iff.1 hu).1
      simp at this
      rw [this] at hu
      injection hu with hu
      subst hu
      have := hb b hbu
      have := h.le
      have := h.bel.size
      omega
  apart j k u v b hu hv hbu hbv := by
    rcases Nat.lt_or_ge j l.length with hj | hj
    · rw [List.getElem?_append_left hj] at hu
      rcases Nat.lt_or_ge k l.length with hk | hk
      · rw [List.getElem?_append_left hk] at hv; exact h.apart j k u v b hu hv hbu hbv
      · rw [List.getElem?_append_right hk] at hv
        have := (List.getElem?_eq_some_iff.1 hv).1
        simp at this
        rw [this] at hv
        injection hv with hv
        subst hv
        have := (h.lt j u hu b hbu).2
        have := (hb b hbv).1
        omega
    · rw [List.getElem?_append_right hj] at hu
      have hj2 := (List.getElem?_eq_some_iff.1 hu).1
      simp at hj2
      rw [hj2] at hu
      injection hu with hu
      subst hu
      rcases Nat.lt_or_ge k l.length with hk | hk
      · rw [List.getElem?_append_left hk] at hv
        have := (h.lt k v hv b hbv).2
        have := (hb b hbu).1
        omega
      · rw [List.getElem?_append_right hk] at hv
        have := (List.getElem?_eq_some_iff.1 hv).1
        simp at this
        omega
/-- Things in another order, or fewer of them. -/
theorem Foot.pick (h : Foot B W w l) (m : List Item) (f : Nat → Nat) (hf : ∀ i x, m[i]? = some x → l[f i]? = some x) (hi : ∀ i j, i < m.length → j < m.length → f i = f j → i = j) : Foot B W w m where
  bel := h.bel
  le := h.le
  ok i x hx := h.ok _ x (hf i x hx)
  lt i x hx := h.lt _ x (hf i x hx)
  apart i j x y b hx hy h1 h2 := hi i j (List.getElem?_eq_some_iff.1 hx).1 (List.getElem?_eq_some_iff.1 hy).1 (h.apart _ _ x y b (hf i x hx) (hf j y hy) h1 h2)
/-- What is told of one of them is told otherwise. -/
theorem Foot.say (h : Foot B W w l) (i : Nat) {x : Item} (hx : l[i]? = some x) (y : Item) (hy : y.ok w) (hb : ∀ b ∈ y.bl, b ∈ x.bl) : Foot B W w (l.set i y) :=
  h.upd i hx y ⟨rfl, rfl, rfl, Nat.le_refl _, fun _ _ _ => rfl⟩ hy fun b k => ⟨.inl (hb b k), (h.lt i x hx b (hb b k)).2⟩
/-- Two of them become one. -/
theorem Foot.join (h : Foot B W w l) (i j : Nat) {x y : Item} (hx : l[i]? = some x) (hy : l[j]? = some y) (hij : i ≠ j) (z u : Item) (hz : z.ok w) (hu : u.ok w) (hu0 : u.bl = []) (hb : ∀ b ∈ z.bl, b ∈ x.bl ∨ b ∈ y.bl) : Foot B W w ((l.set j u).set i z) where
  bel := h.bel
  le := h.le
  ok k v hv := by
    rw [List.getElem?_set] at hv
    by_cases e : i = k
    · rw [if_pos e] at hv
      split at hv
      · injection hv with hv; rw [← hv]; exact hz
      · cases hv
    · rw [if_neg e, List.getElem?_set] at hv
      by_cases e2 : j = k
      · rw [if_pos e2] at hv
        split at hv
        · injection hv with hv; rw [← hv]; exact hu
        · cases hv
      · rw [if_neg e2] at hv; exact h.ok k v hv
  lt k v hv b hbv := by
    rw [List.getElem?_set] at hv
    by_cases e : i = k
    · rw [if_pos e] at hv
      split at hv
      · injection hv with hv
        subst hv
        rcases hb b hbv with h1 | h1
        · exact h.lt i x hx b h1
        · exact h.lt j y hy b h1
      · cases hv
    · rw [if_neg e, List.getElem?_set] at hv
      by_cases e2 : j = k
      · rw [if_pos e2] at hv
        split at hv
        · injection hv with hv; rw [← hv, hu0] at hbv; cases hbv
        · cases hv
      · rw [if_neg e2] at hv; exact h.lt k v hv b hbv
  apart k m v q b hv hq hbv hbq := by
    have key : ∀ (k : Nat) v, ((l.set j u).set i z)[k]? = some v → b ∈ v.bl → (k = i ∧ ((∃ x, l[i]? = some x ∧ b ∈ x.bl) ∨ ∃ x, l[j]? = some x ∧ b ∈ x.bl)) ∨ (k ≠ i ∧ k ≠ j ∧ l[k]? = some v) := by
      intro k v hv hbv
      rw [List.getElem?_set] at hv
      by_cases e : i = k
      · rw [if_pos e] at hv
        split at hv
        · injection hv with hv
          subst hv
          rcases hb b hbv with h1 | h1
          · exact .inl ⟨e.symm, .inl ⟨x, hx, h1⟩⟩
          · exact .inl ⟨e.symm, .inr ⟨y, hy, h1⟩⟩
        · cases hv
      · rw [if_neg e, List.getElem?_set] at hv
        by_cases e2 : j = k
        · rw [if_pos e2] at hv
          split at hv
          · injection hv with hv; rw [← hv, hu0] at hbv; cases hbv
          · cases hv
        · rw [if_neg e2] at hv
          exact .inr ⟨fun e3 => e e3.symm, fun e3 => e2 e3.symm, hv⟩
    rcases key k v hv hbv with ⟨rfl, h1⟩ | ⟨k1, k2, k3⟩
    · rcases key m q hq hbq with ⟨rfl, h2⟩ | ⟨m1, m2, m3⟩
      · rfl
      · rcases h1 with ⟨x', h1, h1b⟩ | ⟨x', h1, h1b⟩
        · exact absurd (h.apart _ _ x' q b h1 m3 h1b hbq) (fun e => m1 e.symm)
        · exact absurd (h.apart _ _ x' q b h1 m3 h1b hbq) (fun e => m2 e.symm)
    · rcases key m q hq hbq with ⟨rfl, h2⟩ | ⟨m1, m2, m3⟩
      · rcases h2 with ⟨x', h1, h1b⟩ | ⟨x', h1, h1b⟩
        · exact absurd (h.apart _ _ x' v b h1 k3 h1b hbv) (fun e => k1 e.symm)
        · exact absurd (h.apart _ _ x' v b h1 k3 h1b hbv) (fun e => k2 e.symm)
      · exact h.apart k m v q b k3 m3 hbv hbq
end

/-- A row of the call's own. -/
def rowI (B : Nat) (e : TypeId) (v : Value) (xs : List Value) : Item where
  bl := v.ownBlock.toList
  ok w := w.ownsRow B e 1 v xs.length xs
  kept h hw := owns_kept hw fun g hg => h g (by rw [hg]; simp)
def blkI (b : Nat) (o : Obj) : Item where
  bl := [b]
  ok w := w.heap[b]? = some o
  kept h hw := (h b (by simp)).trans hw
def mapI (k : TypeId) (b : Nat) (L : List (Value × Value)) : Item where
  bl := [b]
  ok w := MapIs Tryd.prog k w b L
  kept h hw := hw.kept (h b (by simp))
def noneI : Item where
  bl := []
  ok _ := True
  kept _ _ := trivial
/-- What an append makes of a thing. -/
theorem Foot.push {B : Nat} {W w w' : World} {l : List Item} (h : Foot B W w l) (i : Nat) {e : TypeId} {v v' : Value} {xs ys : List Value} (hx : l[i]? = some (rowI B e v xs)) (hown : w'.ownsRow B e 1 v' ys.length ys) (hg : w.grownBy w' v.ownBlock) (hat : v'.ownBlock = v.ownBlock ∨ v'.ownBlock = some w.heap.size) : Foot B W w' (l.set i (rowI B e v' ys)) :=
  h.upd i hx (rowI B e v' ys) (Touch.grown hg) hown fun b hb => by
    have hb' : v'.ownBlock = some b := by
      have : b ∈ v'.ownBlock.toList := hb
      simpa using this
    refine ⟨?_, (owns_lt hown b hb').2⟩
    rcases hat with e1 | e1
    · exact .inl (show b ∈ v.ownBlock.toList by rw [← e1, hb']; simp)
    · rw [e1] at hb'; injection hb' with hb'; exact .inr (by omega)
/-- A store into a row of one's own. -/
theorem own_set {w : World} {B n c k g : Nat} {e : TypeId} {xs : List Value} {x : Value} (h : w.ownsRow B e 1 (.slice (some ⟨g, 0, none⟩) n c) n xs) (hk : k < n) : (w.setCell ⟨g, k, none⟩ x).ownsRow B e 1 (.slice (some ⟨g, 0, none⟩) n c) n (xs.set k x) := by
  refine ⟨by rw [List.length_set]; exact h.1, ?_⟩
  rcases h.2 with ⟨h1, h0⟩ | ⟨g', cap, cur, h1, hB, hg, h2, h3, h4, h5⟩
  · cases h1
  · injection h1 with h1 _ h6
    injection h1 with h1
    injection h1 with h1
    subst h1 h6
    refine .inr ⟨g, c, cur.setIfInBounds k x, rfl, hB, heap_setCell_same w g k cur e x hg, h2, h3, by simpa using h4, ?_⟩
    rw [Array.toList_setIfInBounds, List.take_set, h5]
theorem Foot.store {B : Nat} {W w : World} {l : List Item} (h : Foot B W w l) (i : Nat) {e : TypeId} {g n c k : Nat} {xs : List Value} {x : Value} (hx : l[i]? = some (rowI B e (.slice (some ⟨g, 0, none⟩) n c) xs)) (hn : xs.length = n) (hk : k < n) : Foot B W (w.setCell ⟨g, k, none⟩ x) (l.set i (rowI B e (.slice (some ⟨g, 0, none⟩) n c) (xs.set k x))) :=
  h.upd i hx _ (Touch.set w g k x) (by
    have h1 := h.ok i _ hx
    show World.ownsRow _ B e 1 _ (xs.set k x).length _
    rw [List.length_set]
    subst hn
    exact own_set h1 hk) fun b hb => by
    have hb' : b = g := by
      have : b ∈ (Value.slice (some ⟨g, 0, none⟩) n c).ownBlock.toList := hb
      simpa [Value.ownBlock] using this
    subst hb'
    exact ⟨.inl hb, by have := (h.lt i _ hx b hb).2; simpa using this⟩
end Go.Proofs.YtjpbhbfklkipkaaDoor
