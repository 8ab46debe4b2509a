/- Which states are live: going back from those that accept, in plain mathematics. -/
import Derived.Test.YtochckefnjobhaaGreatDoorUw
namespace Go.Proofs.X6
open X5 (Aut rowOf)
set_option linter.unusedVariables false
structure FromOk (D : Aut) (K : Nat) (XS : List (List Nat)) (a c : Nat) : Prop where
 len : XS.length = D.next.length
 mem : ∀ n, n < D.next.length → ∀ p, p ∈ XS.getD n [] ↔ ((p < a ∧ (n : Int) ∈ rowOf D p) ∨ (p = a ∧ (n : Int) ∈ (rowOf D a).take c))
 few : ∀ n, n < D.next.length → (XS.getD n []).length ≤ a * K + c
theorem FromOk.zero (D : Aut) (K : Nat) : FromOk D K (List.replicate D.next.length []) 0 0 where
 len := by simp
 mem n hn p := by
  rw [List.getD_eq_getElem?_getD, List.getElem?_replicate, if_pos hn]
  simp
 few n hn := by
  rw [List.getD_eq_getElem?_getD, List.getElem?_replicate, if_pos hn]
  simp
theorem take_more {α : Type} {l : List α} {c : Nat} {x : α} (h : l[c]? = some x) : l.take (c + 1) = l.take c ++ [x] := by
 rw [List.take_add_one, h]; rfl
theorem FromOk.skip {D : Aut} {K : Nat} {XS : List (List Nat)} {a c : Nat} (h : FromOk D K XS a c) {z : Int} (hz : (rowOf D a)[c]? = some z) (hn : z < 0) : FromOk D K XS a (c + 1) where
 len := h.len
 mem n hnl p := by
  rw [h.mem n hnl p, take_more hz, List.mem_append, List.mem_singleton]
  constructor
  ·rintro (h | ⟨h1, h2⟩)
   ·exact .inl h
   ·exact .inr ⟨h1, .inl h2⟩
  ·rintro (h | ⟨h1, h2 | h2⟩)
   ·exact .inl h
   ·exact .inr ⟨h1, h2⟩
   ·omega
 few n hnl := by have := h.few n hnl; omega
theorem FromOk.push {D : Aut} {K : Nat} {XS : List (List Nat)} {a c m : Nat} (h : FromOk D K XS a c) (hz : (rowOf D a)[c]? = some (m : Int)) (hm : m < D.next.length) : FromOk D K (XS.set m (XS.getD m [] ++ [a])) a (c + 1) where
 len := by rw [List.length_set]; exact h.len
 mem n hn p := by
  have h0 := h.mem n hn p
  rw [take_more hz, List.mem_append, List.mem_singleton]
  by_cases e : n = m
  ·subst e
   rw [List.getD_eq_getElem?_getD, List.getElem?_set_self (by rw [h.len]; exact hn), Option.getD_some, List.mem_append, List.mem_singleton, h0]
   constructor
   ·rintro ((h | ⟨h1, h2⟩) | h)
    ·exact .inl h
    ·exact .inr ⟨h1, .inl h2⟩
    ·exact .inr ⟨h, .inr rfl⟩
   ·rintro (h | ⟨h1, h2⟩)
    ·exact .inl (.inl h)
    ·exact .inr h1
  ·rw [List.getD_eq_getElem?_getD, List.getElem?_set_ne (fun e2 => e e2.symm), ← List.getD_eq_getElem?_getD, h0]
   constructor
   ·rintro (h | ⟨h1, h2⟩)
    ·exact .inl h
    ·exact .inr ⟨h1, .inl h2⟩
   ·rintro (h | ⟨h1, h2 | h2⟩)
    ·exact .inl h
    ·exact .inr ⟨h1, h2⟩
    ·omega
 few n hn := by
  have := h.few n hn
  by_cases e : n = m
  ·subst e
   rw [List.getD_eq_getElem?_getD, List.getElem?_set_self (by rw [h.len]; exact hn), Option.getD_some, List.length_append, List.length_singleton]
   omega
  ·rw [List.getD_eq_getElem?_getD, List.getElem?_set_ne (fun e2 => e e2.symm), ← List.getD_eq_getElem?_getD]
   omega
theorem FromOk.next {D : Aut} {K : Nat} {XS : List (List Nat)} {a : Nat} (h : FromOk D K XS a K) (hr : (rowOf D a).length = K) : FromOk D K XS (a + 1) 0 where
 len := h.len
 mem n hn p := by
  rw [h.mem n hn p, List.take_of_length_le (by omega)]
  constructor
  ·rintro (⟨h1, h2⟩ | ⟨h1, h2⟩)
   ·exact .inl ⟨by omega, h2⟩
   ·exact .inl ⟨by omega, by rw [h1]; exact h2⟩
  ·rintro (⟨h1, h2⟩ | ⟨h1, h2⟩)
   ·by_cases e : p = a
    ·exact .inr ⟨e, by rw [← e]; exact h2⟩
    ·exact .inl ⟨by omega, h2⟩
   ·simp at h2
 few n hn := by have := h.few n hn; rw [Nat.add_mul]; omega
def tagB (D : Aut) (i : Nat) : Bool := decide (D.tags.getD i 0 ≠ 0)
def lv0 (D : Aut) (a : Nat) : List Bool := (List.range D.next.length).map fun i => decide (i < a) && tagB D i
def q0 (D : Aut) (a : Nat) : List Nat := (List.range a).filter (tagB D)
theorem lv0_len (D : Aut) (a : Nat) : (lv0 D a).length = D.next.length := by simp [lv0]
theorem lv0_at {D : Aut} {a i : Nat} (hi : i < D.next.length) : (lv0 D a)[i]? = some (decide (i < a) && tagB D i) := by simp [lv0, hi]
theorem lv0_getD {D : Aut} {a i : Nat} (hi : i < D.next.length) : (lv0 D a).getD i false = (decide (i < a) && tagB D i) := by rw [List.getD_eq_getElem?_getD, lv0_at hi]; rfl
theorem q0_succ (D : Aut) (a : Nat) : q0 D (a + 1) = if tagB D a then q0 D a ++ [a] else q0 D a := by
 unfold q0
 rw [List.range_succ, List.filter_append]
 by_cases h : tagB D a <;> simp [h]
theorem q0_len (D : Aut) (a : Nat) : (q0 D a).length ≤ a := by
 have := List.length_filter_le (tagB D) (List.range a)
 simpa [q0] using this
theorem lv0_succ {D : Aut} {a : Nat} (ha : a < D.next.length) : lv0 D (a + 1) = if tagB D a then (lv0 D a).set a true else lv0 D a := by
 refine List.ext_getElem? fun i => ?_
 by_cases hi : i < D.next.length
 ·rw [lv0_at hi]
  by_cases h : tagB D a
  ·rw [if_pos h, List.getElem?_set]
   by_cases e : a = i
   ·subst e
    rw [if_pos rfl, if_pos (by rw [lv0_len]; exact hi), h]
    simp
   ·rw [if_neg e, lv0_at hi]
    congr 1
    by_cases h1 : i < a
    ·rw [decide_eq_true h1, decide_eq_true (by omega : i < a + 1)]
    ·rw [decide_eq_false h1, decide_eq_false (by omega : ¬ i < a + 1)]
  ·rw [if_neg h, lv0_at hi]
   congr 1
   by_cases h1 : i < a
   ·rw [decide_eq_true h1, decide_eq_true (by omega : i < a + 1)]
   ·by_cases e : a = i
    ·subst e
     rw [show tagB D a = false by simpa using h]
     simp
    ·rw [decide_eq_false h1, decide_eq_false (by omega : ¬ i < a + 1)]
 ·have h1 : (lv0 D (a + 1)).length ≤ i := by rw [lv0_len]; omega
  rw [List.getElem?_eq_none h1]
  split
  ·rw [List.getElem?_eq_none (by rw [List.length_set, lv0_len]; omega)]
  ·rw [List.getElem?_eq_none (by rw [lv0_len]; omega)]
structure Lv (K : Nat) (D : Aut) (lv : List Bool) (q : List Nat) (ex : Nat → Nat → Prop) : Prop where
 len : lv.length = D.next.length
 snd : ∀ i, i < D.next.length → lv.getD i false = true → Live K D (i : Int)
 tag : ∀ i, i < D.next.length → D.tags.getD i 0 ≠ 0 → lv.getD i false = true
 qin : ∀ i ∈ q, i < D.next.length ∧ lv.getD i false = true
 cl : ∀ i, i < D.next.length → lv.getD i false = true → i ∈ q ∨ ∀ p, p < D.next.length → (i : Int) ∈ rowOf D p → lv.getD p false = true ∨ ex i p
theorem Lv.start (K : Nat) (D : Aut) : Lv K D (lv0 D D.next.length) (q0 D D.next.length) fun _ _ => False where
 len := lv0_len D _
 snd i hi h := by
  rw [lv0_getD hi] at h
  simp [hi, tagB] at h
  exact live_tag (by simpa using h)
 tag i hi h := by
  rw [lv0_getD hi]
  simp [hi, tagB]
  simpa using h
 qin i hi := by
  unfold q0 at hi
  rw [List.mem_filter, List.mem_range] at hi
  exact ⟨hi.1, by rw [lv0_getD hi.1]; simp [hi.1, hi.2]⟩
 cl i hi h := by
  rw [lv0_getD hi] at h
  simp [hi] at h
  left
  unfold q0
  rw [List.mem_filter, List.mem_range]
  exact ⟨hi, h⟩
theorem Lv.pop {K : Nat} {D : Aut} {lv : List Bool} {q : List Nat} {a : Nat} {XS : List (List Nat)} (h : Lv K D lv (a :: q) fun _ _ => False) (hf : FromOk D K XS D.next.length 0) : Lv K D lv q fun i p => i = a ∧ p ∈ (XS.getD a []).drop 0 where
 len := h.len
 snd := h.snd
 tag := h.tag
 qin i hi := h.qin i (by simp [hi])
 cl i hi hl := by
  have ha := (h.qin a (by simp)).1
  by_cases e : i = a
  ·right
   intro p hp hm
   right
   refine ⟨e, ?_⟩
   rw [List.drop_zero, hf.mem a ha p]
   exact .inl ⟨hp, by rw [← e]; exact hm⟩
  ·rcases h.cl i hi hl with h1 | h1
   ·rcases List.mem_cons.1 h1 with h1 | h1
    ·exact absurd h1 e
    ·exact .inl h1
   ·right
    intro p hp hm
    rcases h1 p hp hm with h2 | h2
    ·exact .inl h2
    ·exact h2.elim
theorem drop_mem {l : List Nat} {c p y : Nat} (hc : l[c]? = some y) (h : p ∈ l.drop c) : p = y ∨ p ∈ l.drop (c + 1) := by
 obtain ⟨hlt, he⟩ := List.getElem?_eq_some_iff.1 hc
 rw [List.drop_eq_getElem_cons hlt, List.mem_cons, he] at h
 exact h
theorem Lv.old {K : Nat} {D : Aut} {lv : List Bool} {q : List Nat} {a c y : Nat} {l : List Nat} (h : Lv K D lv q fun i p => i = a ∧ p ∈ l.drop c) (hc : l[c]? = some y) (hy : lv.getD y false = true) : Lv K D lv q fun i p => i = a ∧ p ∈ l.drop (c + 1) where
 len := h.len
 snd := h.snd
 tag := h.tag
 qin := h.qin
 cl i hi hl := by
  rcases h.cl i hi hl with h1 | h1
  ·exact .inl h1
  ·right
   intro p hp hm
   rcases h1 p hp hm with h2 | ⟨h2, h3⟩
   ·exact .inl h2
   ·rcases drop_mem hc h3 with h3 | h3
    ·exact .inl (by rw [h3]; exact hy)
    ·exact .inr ⟨h2, h3⟩
theorem set_getD {lv : List Bool} {y i : Nat} (hy : y < lv.length) : (lv.set y true).getD i false = if y = i then true else lv.getD i false := by
 rw [List.getD_eq_getElem?_getD, List.getElem?_set]
 by_cases e : y = i
 ·rw [if_pos e, if_pos e, if_pos hy]; rfl
 ·rw [if_neg e, if_neg e, List.getD_eq_getElem?_getD]
theorem Lv.new {K : Nat} {D : Aut} (hD : Ok D K) {lv : List Bool} {q : List Nat} {a c y : Nat} {l : List Nat} (h : Lv K D lv q fun i p => i = a ∧ p ∈ l.drop c) (hc : l[c]? = some y) (hy : y < D.next.length) (ha : a < D.next.length) (hla : lv.getD a false = true) (hm : (a : Int) ∈ rowOf D y) : Lv K D (lv.set y true) (q ++ [y]) fun i p => i = a ∧ p ∈ l.drop (c + 1) where
 len := by rw [List.length_set]; exact h.len
 snd i hi hl := by
  rw [set_getD (by rw [h.len]; exact hy)] at hl
  split at hl
  ·rename_i e
   rw [← e]
   exact live_pred hD hy hm (h.snd a ha hla)
  ·exact h.snd i hi hl
 tag i hi ht := by
  rw [set_getD (by rw [h.len]; exact hy)]
  split
  ·rfl
  ·exact h.tag i hi ht
 qin i hi := by
  rw [set_getD (by rw [h.len]; exact hy)]
  rcases List.mem_append.1 hi with hi | hi
  ·refine ⟨(h.qin i hi).1, ?_⟩
   split
   ·rfl
   ·exact (h.qin i hi).2
  ·rw [List.mem_singleton] at hi
   rw [if_pos hi.symm, hi]
   exact ⟨hy, rfl⟩
 cl i hi hl := by
  rw [set_getD (by rw [h.len]; exact hy)] at hl
  by_cases e : y = i
  ·exact .inl (by simp [e])
  ·rw [if_neg e] at hl
   rcases h.cl i hi hl with h1 | h1
   ·exact .inl (by simp [h1])
   ·right
    intro p hp hm
    rw [set_getD (by rw [h.len]; exact hy)]
    rcases h1 p hp hm with h2 | ⟨h2, h3⟩
    ·left; split
     ·rfl
     ·exact h2
    ·rcases drop_mem hc h3 with h3 | h3
     ·exact .inl (by rw [if_pos h3.symm])
     ·exact .inr ⟨h2, h3⟩
theorem Lv.done {K : Nat} {D : Aut} {lv : List Bool} {q : List Nat} {a : Nat} {l : List Nat} (h : Lv K D lv q fun i p => i = a ∧ p ∈ l.drop l.length) : Lv K D lv q fun _ _ => False where
 len := h.len
 snd := h.snd
 tag := h.tag
 qin := h.qin
 cl i hi hl := by
  rcases h.cl i hi hl with h1 | h1
  ·exact .inl h1
  ·right
   intro p hp hm
   rcases h1 p hp hm with h2 | ⟨_, h3⟩
   ·exact .inl h2
   ·simp at h3
theorem Lv.live {K : Nat} {D : Aut} (hD : Ok D K) {lv : List Bool} (h : Lv K D lv [] fun _ _ => False) : lv.length = D.next.length ∧ ∀ i, i < D.next.length → (lv.getD i false = true ↔ Live K D (i : Int)) := by
 refine ⟨h.len, fun i hi => ⟨h.snd i hi, fun hl => ?_⟩⟩
 refine live_closed hD (fun i => i < D.next.length → lv.getD i false = true) (fun i hi ht _ => h.tag i hi ht) (fun p i hp hm hP _ => ?_) i hi hl hi
 obtain ⟨hi1, hi2⟩ : i < D.next.length ∧ True := ⟨by have := (hD.ends p hp _ hm).2; omega, trivial⟩
 rcases h.cl i hi1 (hP hi1) with h1 | h1
 ·cases h1
 ·rcases h1 p hp hm with h2 | h2
  ·exact h2
  ·exact h2.elim
def todo (lv : List Bool) (q : List Nat) : Nat := lv.count false + q.length
theorem cnt_filter (f : Nat → Bool) : ∀ l : List Nat, (l.map f).count false + (l.filter f).length = l.length
 | [] => rfl
 | x :: l => by
  have := cnt_filter f l
  rw [List.map_cons, List.count_cons, List.filter_cons, List.length_cons]
  cases h : f x <;> simp <;> omega
theorem todo_start (D : Aut) : todo (lv0 D D.next.length) (q0 D D.next.length) = D.next.length := by
 have e : lv0 D D.next.length = (List.range D.next.length).map (tagB D) := by
  unfold lv0
  exact List.map_congr_left fun i hi => by
   rw [List.mem_range] at hi
   simp [hi]
 have := cnt_filter (tagB D) (List.range D.next.length)
 unfold todo q0
 rw [e]
 simpa using this
theorem count_set : ∀ {lv : List Bool} {y : Nat}, lv.getD y true = false → (lv.set y true).count false + 1 = lv.count false
 | [], y, h => by simp at h
 | b :: lv, 0, h => by
  have : b = false := by simpa using h
  subst this
  simp
 | b :: lv, y + 1, h => by
  have := count_set (lv := lv) (y := y) (by simpa using h)
  rw [List.set_cons_succ, List.count_cons, List.count_cons]
  omega
end Go.Proofs.X6
