/- What a call holds, thing by thing; no two of them share memory. A queue. -/
import Derived.Deep.AppendSrc
import Derived.Test.YtochckefnjobhaaGreatDoorUn
namespace Go.Proofs.YtochckefnjobhaaGreatDoor
open Go Go.RowKit Go.Lib
set_option linter.unusedVariables false
set_option linter.unusedSimpArgs false
structure Item where
 bl : List Nat
 ok : World → Prop
 kept : ∀ {w w' : World}, (∀ b ∈ bl, w'.heap[b]? = w.heap[b]?) → ok w → ok w'
structure Touch (T : List Nat) (w w' : World) : Prop where
 os : w'.os = w.os
 tape : w'.tape = w.tape
 output : w'.output = w.output
 size : w.heap.size ≤ w'.heap.size
 block : ∀ g, g < w.heap.size → g ∉ T → w'.heap[g]? = w.heap[g]?
theorem Touch.grown {w w' : World} {o : Option Nat} (h : w.grownBy w' o) : Touch o.toList w w' :=
 ⟨h.os, h.tape, h.output, h.size, fun g hg hn => h.block g hg (fun e => hn (by rw [← e]; simp))⟩
theorem Touch.below {w w' : World} (h : Below w.heap.size w w') : Touch [] w w' := ⟨h.os, h.tape, h.output, h.size, fun g hg _ => h.block g hg⟩
theorem Touch.set (w : World) (b k : Nat) (v : Value) : Touch [b] w (w.setCell ⟨b, k, none⟩ v) :=
 ⟨rfl, rfl, rfl, by simp, fun g _ hn => Below.heap_setCell w ⟨b, k, none⟩ v g (fun e => hn (by simp [e]))⟩
theorem Touch.alloc (w : World) (o : Obj) : Touch [] w (w.alloc o) := Touch.below ((Below.refl _ _).alloc (Nat.le_refl _) o)
theorem Touch.mono {T T' : List Nat} {w w' : World} (h : Touch T w w') (hs : ∀ g ∈ T, g ∈ T') : Touch T' w w' := ⟨h.os, h.tape, h.output, h.size, fun g hg hn => h.block g hg fun k => hn (hs g k)⟩
theorem Touch.trans {T : List Nat} {w w' w'' : World} (h : Touch T w w') (k : Touch T w' w'') : Touch T w w'' :=
 ⟨k.os.trans h.os, k.tape.trans h.tape, k.output.trans h.output, Nat.le_trans h.size k.size, fun g hg hn => (k.block g (Nat.lt_of_lt_of_le hg h.size) hn).trans (h.block g hg hn)⟩
structure Foot (B : Nat) (W w : World) (l : List Item) : Prop where
 bel : Below B W w
 le : B ≤ W.heap.size
 ok : ∀ (i : Nat) x, l[i]? = some x → x.ok w
 lt : ∀ (i : Nat) x, l[i]? = some x → ∀ b ∈ x.bl, B ≤ b ∧ b < w.heap.size
 apart : ∀ (i j : Nat) x y b, l[i]? = some x → l[j]? = some y → b ∈ x.bl → b ∈ y.bl → i = j
theorem Foot.empty (w : World) (B : Nat) (h : B ≤ w.heap.size) : Foot B w w [] := ⟨Below.refl _ _, h, by simp, by simp, by simp⟩
theorem Touch.bel {B : Nat} {W w w' : World} {T : List Nat} (h : Touch T w w') (hb : Below B W w) (hB : B ≤ W.heap.size) (hT : ∀ b ∈ T, B ≤ b) : Below B W w' :=
 ⟨h.os.trans hb.os, h.tape.trans hb.tape, h.output.trans hb.output, Nat.le_trans hb.size h.size, fun g hg => (h.block g (by have := hb.size; omega) fun hn => by have := hT g hn; omega).trans (hb.block g hg)⟩
section
variable {B : Nat} {W w w' : World} {l : List Item} {x y z : Item} {i j : Nat}
theorem Foot.upd (h : Foot B W w l) (i : Nat) {x : Item} (hx : l[i]? = some x) (y : Item) (ht : Touch x.bl w w') (hy : y.ok w') (hb : ∀ b ∈ y.bl, (b ∈ x.bl ∨ w.heap.size ≤ b) ∧ b < w'.heap.size) : Foot B W w' (l.set i y) where
 bel := ht.bel h.bel h.le fun b hb => (h.lt i x hx b hb).1
 le := h.le
 ok j u hu := by
  rw [List.getElem?_set] at hu
  by_cases e : i = j
  ·rw [if_pos e] at hu
   split at hu
   ·injection hu with hu; rw [← hu]; exact hy
   ·cases hu
  ·rw [if_neg e] at hu
   exact u.kept (fun b hb => ht.block b (h.lt j u hu b hb).2 fun k => e (h.apart i j x u b hx hu k hb)) (h.ok j u hu)
 lt j u hu b hbu := by
  rw [List.getElem?_set] at hu
  by_cases e : i = j
  ·rw [if_pos e] at hu
   split at hu
   ·injection hu with hu
    subst hu
    obtain ⟨h1, h2⟩ := hb b hbu
    refine ⟨?_, h2⟩
    rcases h1 with h1 | h1
    ·exact (h.lt i x hx b h1).1
    ·have := h.le; have := h.bel.size; omega
   ·cases hu
  ·rw [if_neg e] at hu
   have := h.lt j u hu b hbu
   have := ht.size
   omega
 apart j k u v b hu hv hbu hbv := by
  rw [List.getElem?_set] at hu hv
  by_cases e : i = j
  ·by_cases e2 : i = k
   ·omega
   ·exfalso
    rw [if_pos e] at hu
    rw [if_neg e2] at hv
    split at hu
    ·injection hu with hu
     subst hu
     rcases (hb b hbu).1 with h1 | h1
     ·exact e2 (h.apart i k x v b hx hv h1 hbv)
     ·have := (h.lt k v hv b hbv).2; omega
    ·cases hu
  ·rw [if_neg e] at hu
   by_cases e2 : i = k
   ·exfalso
    rw [if_pos e2] at hv
    split at hv
    ·injection hv with hv
     subst hv
     rcases (hb b hbv).1 with h1 | h1
     ·exact e (h.apart i j x u b hx hu h1 hbu)
     ·have := (h.lt j u hu b hbu).2; omega
    ·cases hv
   ·rw [if_neg e2] at hv
    exact h.apart j k u v b hu hv hbu hbv
theorem Foot.below (h : Foot B W w l) (hb : Below w.heap.size w w') : Foot B W w' l where
 bel := (Touch.below hb).bel h.bel h.le (by simp)
 le := h.le
 ok j u hu := u.kept (fun b hbu => hb.block b (h.lt j u hu b hbu).2) (h.ok j u hu)
 lt j u hu b hbu := by have := h.lt j u hu b hbu; have := hb.size; omega
 apart := h.apart
theorem Foot.add (h : Foot B W w l) (y : Item) (hw : Below w.heap.size w w') (hy : y.ok w') (hb : ∀ b ∈ y.bl, w.heap.size ≤ b ∧ b < w'.heap.size) : Foot B W w' (l ++ [y]) where
 bel := (h.below hw).bel
 le := h.le
 ok j u hu := by
  rcases Nat.lt_or_ge j l.length with hj | hj
  ·rw [List.getElem?_append_left hj] at hu; exact (h.below hw).ok j u hu
  ·rw [List.getElem?_append_right hj] at hu
   have := (List.getElem?_eq_some_iff.1 hu).1
   simp at this
   rw [this] at hu
   injection hu with hu
   rw [← hu]; exact hy
 lt j u hu b hbu := by
  rcases Nat.lt_or_ge j l.length with hj | hj
  ·rw [List.getElem?_append_left hj] at hu; exact (h.below hw).lt j u hu b hbu
  ·rw [List.getElem?_append_right hj] at hu
   have := (List.getElem?_eq_some_iff.1 hu).1
   simp at this
   rw [this] at hu
   injection hu with hu
   subst hu
   have := hb b hbu
   have := h.le
   have := h.bel.size
   omega
 apart j k u v b hu hv hbu hbv := by
  rcases Nat.lt_or_ge j l.length with hj | hj
  ·rw [List.getElem?_append_left hj] at hu
   rcases Nat.lt_or_ge k l.length with hk | hk
   ·rw [List.getElem?_append_left hk] at hv; exact h.apart j k u v b hu hv hbu hbv
   ·rw [List.getElem?_append_right hk] at hv
    have := (List.getElem?_eq_some_iff.1 hv).1
    simp at this
    rw [this] at hv
    injection hv with hv
    subst hv
    have := (h.lt j u hu b hbu).2
    have := (hb b hbv).1
    omega
  ·rw [List.getElem?_append_right hj] at hu
   have hj2 := (List.getElem?_eq_some_iff.1 hu).1
   simp at hj2
   rw [hj2] at hu
   injection hu with hu
   subst hu
   rcases Nat.lt_or_ge k l.length with hk | hk
   ·rw [List.getElem?_append_left hk] at hv
    have := (h.lt k v hv b hbv).2
    have := (hb b hbu).1
    omega
   ·rw [List.getElem?_append_right hk] at hv
    have := (List.getElem?_eq_some_iff.1 hv).1
    simp at this
    omega
theorem Foot.say (h : Foot B W w l) (i : Nat) {x : Item} (hx : l[i]? = some x) (y : Item) (hy : y.ok w) (hb : ∀ b ∈ y.bl, b ∈ x.bl) : Foot B W w (l.set i y) :=
 h.upd i hx y ⟨rfl, rfl, rfl, Nat.le_refl _, fun _ _ _ => rfl⟩ hy fun b k => ⟨.inl (hb b k), (h.lt i x hx b (hb b k)).2⟩
theorem Foot.join (h : Foot B W w l) (i j : Nat) {x y : Item} (hx : l[i]? = some x) (hy : l[j]? = some y) (hij : i ≠ j) (z u : Item) (hz : z.ok w) (hu : u.ok w) (hu0 : u.bl = []) (hb : ∀ b ∈ z.bl, b ∈ x.bl ∨ b ∈ y.bl) : Foot B W w ((l.set j u).set i z) where
 bel := h.bel
 le := h.le
 ok k v hv := by
  rw [List.getElem?_set] at hv
  by_cases e : i = k
  ·rw [if_pos e] at hv
   split at hv
   ·injection hv with hv; rw [← hv]; exact hz
   ·cases hv
  ·rw [if_neg e, List.getElem?_set] at hv
   by_cases e2 : j = k
   ·rw [if_pos e2] at hv
    split at hv
    ·injection hv with hv; rw [← hv]; exact hu
    ·cases hv
   ·rw [if_neg e2] at hv; exact h.ok k v hv
 lt k v hv b hbv := by
  rw [List.getElem?_set] at hv
  by_cases e : i = k
  ·rw [if_pos e] at hv
   split at hv
   ·injection hv with hv
    subst hv
    rcases hb b hbv with h1 | h1
    ·exact h.lt i x hx b h1
    ·exact h.lt j y hy b h1
   ·cases hv
  ·rw [if_neg e, List.getElem?_set] at hv
   by_cases e2 : j = k
   ·rw [if_pos e2] at hv
    split at hv
    ·injection hv with hv; rw [← hv, hu0] at hbv; cases hbv
    ·cases hv
   ·rw [if_neg e2] at hv; exact h.lt k v hv b hbv
 apart k m v q b hv hq hbv hbq := by
  have key : ∀ (k : Nat) v, ((l.set j u).set i z)[k]? = some v → b ∈ v.bl → (k = i ∧ ((∃ x, l[i]? = some x ∧ b ∈ x.bl) ∨ ∃ x, l[j]? = some x ∧ b ∈ x.bl)) ∨ (k ≠ i ∧ k ≠ j ∧ l[k]? = some v) := by
   intro k v hv hbv
   rw [List.getElem?_set] at hv
   by_cases e : i = k
   ·rw [if_pos e] at hv
    split at hv
    ·injection hv with hv
     subst hv
     rcases hb b hbv with h1 | h1
     ·exact .inl ⟨e.symm, .inl ⟨x, hx, h1⟩⟩
     ·exact .inl ⟨e.symm, .inr ⟨y, hy, h1⟩⟩
    ·cases hv
   ·rw [if_neg e, List.getElem?_set] at hv
    by_cases e2 : j = k
    ·rw [if_pos e2] at hv
     split at hv
     ·injection hv with hv; rw [← hv, hu0] at hbv; cases hbv
     ·cases hv
    ·rw [if_neg e2] at hv
     exact .inr ⟨fun e3 => e e3.symm, fun e3 => e2 e3.symm, hv⟩
  rcases key k v hv hbv with ⟨rfl, h1⟩ | ⟨k1, k2, k3⟩
  ·rcases key m q hq hbq with ⟨rfl, h2⟩ | ⟨m1, m2, m3⟩
   ·rfl
   ·rcases h1 with ⟨x', h1, h1b⟩ | ⟨x', h1, h1b⟩
    ·exact absurd (h.apart _ _ x' q b h1 m3 h1b hbq) (fun e => m1 e.symm)
    ·exact absurd (h.apart _ _ x' q b h1 m3 h1b hbq) (fun e => m2 e.symm)
  ·rcases key m q hq hbq with ⟨rfl, h2⟩ | ⟨m1, m2, m3⟩
   ·rcases h2 with ⟨x', h1, h1b⟩ | ⟨x', h1, h1b⟩
    ·exact absurd (h.apart _ _ x' v b h1 k3 h1b hbv) (fun e => k1 e.symm)
    ·exact absurd (h.apart _ _ x' v b h1 k3 h1b hbv) (fun e => k2 e.symm)
   ·exact h.apart k m v q b k3 m3 hbv hbq
end
def rowI (B : Nat) (e : TypeId) (v : Value) (xs : List Value) : Item where
 bl := v.ownBlock.toList
 ok w := w.ownsRow B e 1 v xs.length xs
 kept h hw := owns_kept hw fun g hg => h g (by rw [hg]; simp)
def blkI (b : Nat) (o : Obj) : Item where
 bl := [b]
 ok w := w.heap[b]? = some o
 kept h hw := (h b (by simp)).trans hw
def mapI (k : TypeId) (b : Nat) (L : List (Value × Value)) : Item where
 bl := [b]
 ok w := MapIs Tryz.prog k w b L
 kept h hw := hw.kept (h b (by simp))
def noneI : Item where
 bl := []
 ok _ := True
 kept _ _ := trivial
def ownsTail (w : World) (B : Nat) (e : TypeId) (v : Value) (xs : List Value) : Prop :=
 (v = .slice none 0 0 ∧ xs = []) ∨ ∃ g off cap cur, v = .slice (some ⟨g, off, none⟩) xs.length cap ∧ B ≤ g ∧ w.heap[g]? = some (.cells cur e (0, 0)) ∧ xs.length ≤ cap ∧ cap ≤ maxLen ∧ off + cap ≤ cur.size ∧ (cur.toList.drop off).take xs.length = xs
theorem ownsTail.kept {w w' : World} {B : Nat} {e : TypeId} {v : Value} {xs : List Value} (h : ownsTail w B e v xs) (hb : ∀ g, v.ownBlock = some g → w'.heap[g]? = w.heap[g]?) : ownsTail w' B e v xs := by
 rcases h with h | ⟨g, off, cap, cur, rfl, hB, hg, rest⟩
 ·exact .inl h
 ·exact .inr ⟨g, off, cap, cur, rfl, hB, (hb g rfl).trans hg, rest⟩
def tailI (B : Nat) (e : TypeId) (v : Value) (xs : List Value) : Item where
 bl := v.ownBlock.toList
 ok w := ownsTail w B e v xs
 kept h hw := hw.kept fun g hg => h g (by rw [hg]; simp)
theorem tail_next {w : World} {B : Nat} {e : TypeId} {g off cap : Nat} {x : Value} {xs : List Value} (h : ownsTail w B e (.slice (some ⟨g, off, none⟩) (xs.length + 1) cap) (x :: xs)) :
  w.cell? ⟨g, off, none⟩ = some x ∧ g < w.heap.size ∧ 0 < cap ∧ cap ≤ maxLen ∧ xs.length + 1 ≤ cap ∧ ownsTail w B e (.slice (some ⟨g, off + 1, none⟩) xs.length (cap - 1)) xs ∧ (cap = 1 → xs = [] ∧ ownsTail w B e (.slice (some ⟨g, off, none⟩) 0 0) xs) := by
 rcases h with ⟨h, _⟩ | ⟨g', off', cap', cur, hv, hB, hg, h1, h2, h3, h4⟩
 ·cases h
 ·injection hv with hv1 hv2 hv3
  injection hv1 with hv1
  injection hv1 with hv1 hv4
  subst hv1 hv4 hv3
  rw [List.length_cons] at h1 h4
  have hlt : off < cur.toList.length := by rw [Array.length_toList]; omega
  rw [List.drop_eq_getElem_cons hlt, List.take_succ_cons] at h4
  injection h4 with h4 h5
  refine ⟨?_, (Array.getElem?_eq_some_iff.1 hg).1, by omega, h2, h1, .inr ⟨g, off + 1, cap - 1, cur, rfl, hB, hg, by omega, by omega, by omega, ?_⟩, fun hc => ?_⟩
  ·rw [Lib.cell_of_heap hg, ← h4, Array.getElem?_eq_getElem (by rw [Array.length_toList] at hlt; exact hlt)]
   rfl
  ·exact h5
  ·have : xs = [] := List.eq_nil_of_length_eq_zero (by omega)
   subst this
   exact ⟨rfl, .inr ⟨g, off, 0, cur, rfl, hB, hg, Nat.le_refl _, by omega, by omega, rfl⟩⟩
section
variable {w : World}
theorem run_push_tail (t ty e : TypeId) (z : Value) (bytes : Nat) (ht : Tryz.prog.underlying t = some (.slice e)) (hinfo : (Tryz.prog.info? e).map (fun i => (i.zero, i.size, i.bytes)) = some (some z, 1, bytes)) (hz1 : z.cells.size = 1) (hby : bytes ≤ 24)
  (B : Nat) (v : Value) (xs : List Value) (hown : ownsTail w B e v xs) (g : Nat) (q : Value) (hb : w.heap[g]? = some (.cells #[q] e (0, 0))) (hq : q.oneCell' = true) (hn : xs.length ≤ 1000000) (hB : B ≤ w.heap.size) :
  ∃ v' w', (Builtin.append_ #[t, t] ty #[v, .slice (some ⟨g, 0, none⟩) 1 1]).run Tryz.prog w = .ok v' w' ∧ ownsTail w' B e v' (xs ++ [q]) ∧ w.grownBy w' v.ownBlock ∧ (v'.ownBlock = v.ownBlock ∨ v'.ownBlock = some w.heap.size) ∧ (∃ ao c, v' = .slice ao (xs.length + 1) c) := by
 obtain ⟨i, hi, hz, hs, hbi⟩ := info_parts hinfo
 have hsrc : Src Tryz.prog i.size t (.slice (some ⟨g, 0, none⟩) 1 1) 1 [q] w := Src.ofSlice w ht ⟨g, 0, none⟩ 1 1 [q] (by simp [hs]) (fun j u hj => by
  match j, hj with
  | 0, hj =>
   simp at hj
   subst hj
   have : (⟨g, 0, none⟩ : Addr).add 0 = ⟨g, 0, none⟩ := by simp [Addr.add]
   rw [this, Lib.cell_of_heap hb]; rfl) (by simpa using hq)
 have grown : ∀ (base : Option Addr) (cap : Nat), cap < xs.length + 1 → (Builtin.firstCells i.size xs.length (.slice base xs.length cap)).run Tryz.prog w.drew = .ok xs.toArray w.drew → v = .slice base xs.length cap →
   ∃ v' w', (Builtin.append_ #[t, t] ty #[v, .slice (some ⟨g, 0, none⟩) 1 1]).run Tryz.prog w = .ok v' w' ∧ ownsTail w' B e v' (xs ++ [q]) ∧ w.grownBy w' v.ownBlock ∧ (v'.ownBlock = v.ownBlock ∨ v'.ownBlock = some w.heap.size) ∧ (∃ ao c, v' = .slice ao (xs.length + 1) c) := by
  intro base cap hc hold hv
  have hr := run_append_grow_src (P := Tryz.prog) w t t ty e i z ht hi hz base xs.length cap xs hold (.slice (some ⟨g, 0, none⟩) 1 1) 1 [q] hsrc hc (by omega) (growslice_fits (by omega) (by
   have : (xs.length + 1) * i.bytes ≤ (xs.length + 1) * 24 := Nat.mul_le_mul_left _ (by omega)
   omega))
  have hge := grownCap_ge w (xs.length + 1) cap e
  have hcm : grownCap w (xs.length + 1) cap e ≤ maxLen := grownCap_le_maxLen w (xs.length + 1) cap e (by unfold maxLen; omega)
  subst hv
  refine ⟨_, _, hr, .inr ⟨w.heap.size, 0, grownCap w (xs.length + 1) cap e, _, by rw [List.length_append]; rfl, hB, heap_alloc_new w.drew _, by rw [List.length_append]; exact hge, hcm, ?_, ?_⟩, ⟨rfl, rfl, rfl, by simp, fun k hk _ => Below.heap_alloc w.drew _ k hk⟩, .inr rfl, _, _, rfl⟩
  ·simp [size_zeroCells, hz1]
   omega
  ·have e : ((xs ++ [q]).toArray ++ Builtin.zeroCells z.cells (grownCap w (xs.length + 1) cap e - (xs.length + 1))).toList = (xs ++ [q]) ++ (Builtin.zeroCells z.cells (grownCap w (xs.length + 1) cap e - (xs.length + 1))).toList := by simp
   rw [List.drop_zero, e]
   exact List.take_left
 rcases hown with ⟨rfl, rfl⟩ | ⟨gg, off, cap, cur, rfl, hBg, hg, h1, h2, h3, h4⟩
 ·exact grown none 0 (by simp) (run_firstCells_none w.drew i.size 0 0 0) rfl
 ·by_cases hroom : xs.length + 1 ≤ cap
  ·have hr := run_append_room_src (P := Tryz.prog) w t t ty e i ht hi gg off xs.length cap (.slice (some ⟨g, 0, none⟩) 1 1) 1 [q] hsrc hroom
    (fun j hj => by
     simp at hj
     subst hj
     rw [hs, Nat.mul_one, Nat.add_zero, Lib.cell_of_heap hg, Array.getElem?_eq_getElem (by omega)]
     rfl) (fun j hj => Lib.frozen_of_heap hg _)
   rw [hs, Nat.mul_one] at hr
   refine ⟨_, _, hr, .inr ⟨gg, off, cap, cur.setIfInBounds (off + xs.length) q, by rw [List.length_append]; rfl, hBg, ?_, by rw [List.length_append]; exact hroom, h2, by simpa using h3, ?_⟩, ⟨rfl, rfl, rfl, by simp [World.setCells], fun k _ hk => ?_⟩, .inl rfl, _, _, rfl⟩
   ·show ((w.setCell ⟨gg, off + xs.length, none⟩ q).setCells gg (off + xs.length + 1) []).heap[gg]? = _
    exact heap_setCell_same w gg (off + xs.length) cur e q hg
   ·have hl : cap ≤ (cur.toList.drop off).length := by rw [List.length_drop, Array.length_toList]; omega
    rw [Array.toList_setIfInBounds, List.drop_set, if_neg (by omega), show off + xs.length - off = xs.length by omega, List.length_append, List.length_singleton]
    rw [List.take_add_one, List.take_set, List.set_eq_of_length_le (by rw [List.length_take]; omega), h4, List.getElem?_set_self (by omega)]
    rfl
   ·show ((w.setCell ⟨gg, off + xs.length, none⟩ q).setCells gg (off + xs.length + 1) []).heap[k]? = _
    exact Below.heap_setCell w ⟨gg, off + xs.length, none⟩ q k (fun e => hk (by rw [e]; rfl))
  ·refine grown _ cap (by omega) (run_firstCells_some w.drew i.size xs.length ⟨gg, off, none⟩ xs.length cap xs (by rw [hs]; simp) fun j u hu => ?_) rfl
   rw [show (⟨gg, off, none⟩ : Addr).add j = ⟨gg, off + j, none⟩ by unfold Addr.add; split <;> simp_all]
   show w.cell? ⟨gg, off + j, none⟩ = some u
   rw [Lib.cell_of_heap hg, ← hu, ← h4, List.getElem?_take_of_lt (List.getElem?_eq_some_iff.1 hu).1, List.getElem?_drop, Array.getElem?_toList]
theorem wpList_push_tail {ops : Array Oper} {rest : List Oper} {o : Oper} {a : Act} {Q : Exit → Act → World → Prop} (hgd : o.guard = none) (s x : Operand) (t e : TypeId) (ho : o.op = .call { callee := .builtin .append, args := #[s, x], argTypes := #[t, t] })
  (z : Value) (bytes : Nat) (ht : Tryz.prog.underlying t = some (.slice e)) (hinfo : (Tryz.prog.info? e).map (fun i => (i.zero, i.size, i.bytes)) = some (some z, 1, bytes)) (hz1 : z.cells.size = 1) (hby : bytes ≤ 24)
  (B : Nat) (v : Value) (xs : List Value) (hs : a.eval s = v) (hown : ownsTail w B e v xs) (g : Nat) (hx : a.eval x = .slice (some ⟨g, 0, none⟩) 1 1) (q : Value) (hb : w.heap[g]? = some (.cells #[q] e (0, 0))) (hq : q.oneCell' = true) (hn : xs.length ≤ 1000000) (hB : B ≤ w.heap.size)
  (h : ∀ ao c w', ownsTail w' B e (.slice ao (xs.length + 1) c) (xs ++ [q]) → w.grownBy w' v.ownBlock → ((Value.slice ao (xs.length + 1) c).ownBlock = v.ownBlock ∨ (Value.slice ao (xs.length + 1) c).ownBlock = some w.heap.size) → wpList Tryz.prog ops Q rest (a.put o.dst (.slice ao (xs.length + 1) c)) w') : wpList Tryz.prog ops Q (o :: rest) a w := by
 refine wpList_plain hgd fun K hK => ?_
 obtain ⟨v', w', hr, h2, h3, h4, ao, c, rfl⟩ := run_push_tail (w := w) t o.type e z bytes ht hinfo hz1 hby B v xs hown g q hb hq hn hB
 unfold Oper.wp execOp
 simp only [ho, resolve, invoke, builtin, Sem.run_bind, Sem.run_pure, Result.andThen_ok, List.map_toArray, List.map_cons, List.map_nil, hs, hx, hr]
 exact hK _ _ (h ao c w' h2 h3 h4)
end
theorem Foot.push {B : Nat} {W w w' : World} {l : List Item} (h : Foot B W w l) (i : Nat) {e : TypeId} {v v' : Value} {xs ys : List Value} (hx : l[i]? = some (rowI B e v xs)) (hown : w'.ownsRow B e 1 v' ys.length ys) (hg : w.grownBy w' v.ownBlock) (hat : v'.ownBlock = v.ownBlock ∨ v'.ownBlock = some w.heap.size) : Foot B W w' (l.set i (rowI B e v' ys)) :=
 h.upd i hx (rowI B e v' ys) (Touch.grown hg) hown fun b hb => by
  have hb' : v'.ownBlock = some b := by
   have : b ∈ v'.ownBlock.toList := hb
   simpa using this
  refine ⟨?_, (owns_lt hown b hb').2⟩
  rcases hat with e1 | e1
  ·exact .inl (show b ∈ v.ownBlock.toList by rw [← e1, hb']; simp)
  ·rw [e1] at hb'; injection hb' with hb'; exact .inr (by omega)
theorem tail_lt {w : World} {B : Nat} {e : TypeId} {v : Value} {xs : List Value} (h : ownsTail w B e v xs) (g : Nat) (hg : v.ownBlock = some g) : B ≤ g ∧ g < w.heap.size := by
 rcases h with ⟨rfl, _⟩ | ⟨g', off, cap, cur, rfl, hB, hh, _⟩
 ·cases hg
 ·injection hg with hg; subst hg; exact ⟨hB, (Array.getElem?_eq_some_iff.1 hh).1⟩
theorem Foot.push_tail {B : Nat} {W w w' : World} {l : List Item} (h : Foot B W w l) (i : Nat) {e : TypeId} {v v' : Value} {xs ys : List Value} (hx : l[i]? = some (tailI B e v xs)) (hown : ownsTail w' B e v' ys) (hg : w.grownBy w' v.ownBlock) (hat : v'.ownBlock = v.ownBlock ∨ v'.ownBlock = some w.heap.size) : Foot B W w' (l.set i (tailI B e v' ys)) :=
 h.upd i hx (tailI B e v' ys) (Touch.grown hg) hown fun b hb => by
  have hb' : v'.ownBlock = some b := by
   have : b ∈ v'.ownBlock.toList := hb
   simpa using this
  refine ⟨?_, (tail_lt hown b hb').2⟩
  rcases hat with e1 | e1
  ·exact .inl (show b ∈ v.ownBlock.toList by rw [← e1, hb']; simp)
  ·rw [e1] at hb'; injection hb' with hb'; exact .inr (by omega)
theorem own_set {w : World} {B n c k g : Nat} {e : TypeId} {xs : List Value} {x : Value} (h : w.ownsRow B e 1 (.slice (some ⟨g, 0, none⟩) n c) n xs) (hk : k < n) : (w.setCell ⟨g, k, none⟩ x).ownsRow B e 1 (.slice (some ⟨g, 0, none⟩) n c) n (xs.set k x) := by
 refine ⟨by rw [List.length_set]; exact h.1, ?_⟩
 rcases h.2 with ⟨h1, h0⟩ | ⟨g', cap, cur, h1, hB, hg, h2, h3, h4, h5⟩
 ·cases h1
 ·injection h1 with h1 _ h6
  injection h1 with h1
  injection h1 with h1
  subst h1 h6
  refine .inr ⟨g, c, cur.setIfInBounds k x, rfl, hB, heap_setCell_same w g k cur e x hg, h2, h3, by simpa using h4, ?_⟩
  rw [Array.toList_setIfInBounds, List.take_set, h5]
theorem Foot.store {B : Nat} {W w : World} {l : List Item} (h : Foot B W w l) (i : Nat) {e : TypeId} {g n c k : Nat} {xs : List Value} {x : Value} (hx : l[i]? = some (rowI B e (.slice (some ⟨g, 0, none⟩) n c) xs)) (hn : xs.length = n) (hk : k < n) : Foot B W (w.setCell ⟨g, k, none⟩ x) (l.set i (rowI B e (.slice (some ⟨g, 0, none⟩) n c) (xs.set k x))) :=
 h.upd i hx _ (Touch.set w g k x) (by
  have h1 := h.ok i _ hx
  show World.ownsRow _ B e 1 _ (xs.set k x).length _
  rw [List.length_set]
  subst hn
  exact own_set h1 hk) fun b hb => by
  have hb' : b = g := by
   have : b ∈ (Value.slice (some ⟨g, 0, none⟩) n c).ownBlock.toList := hb
   simpa [Value.ownBlock] using this
  subst hb'
  exact ⟨.inl hb, by have := (h.lt i _ hx b hb).2; simpa using this⟩
end Go.Proofs.YtochckefnjobhaaGreatDoor
