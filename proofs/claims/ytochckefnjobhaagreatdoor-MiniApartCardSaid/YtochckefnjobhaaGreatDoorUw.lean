/- The least automaton, in plain mathematics: states that nothing tells apart; blocks; numbers by when they are come to. -/
import Derived.Test.YtochckefnjobhaaGreatDoorUj
namespace Go.Proofs.X6
open X5 (Aut rowOf behX goX runX)
set_option linter.unusedVariables false
structure Ok (D : Aut) (K : Nat) : Prop where
 some_ : D.next ≠ []
 tags : D.tags.length = D.next.length
 rows : ∀ i, i < D.next.length → (rowOf D i).length = K
 ends : ∀ i, i < D.next.length → ∀ x ∈ rowOf D i, -1 ≤ x ∧ x < (D.next.length : Int)
def stp (D : Aut) (x : Int) (c : Nat) : Int := if x < 0 then -1 else (rowOf D x.toNat).getD c (-1)
def col (D : Aut) : List Nat → Int → Int
 | [], x => x
 | c :: w, x => col D w (stp D x c)
def tg (D : Aut) (x : Int) : Nat := if x < 0 then 0 else D.tags.getD x.toNat 0
def Eqv (K : Nat) (D : Aut) (x : Int) (E : Aut) (y : Int) : Prop := ∀ w : List Nat, (∀ c ∈ w, c < K) → tg D (col D w x) = tg E (col E w y)
def Live (K : Nat) (D : Aut) (x : Int) : Prop := ∃ w : List Nat, (∀ c ∈ w, c < K) ∧ tg D (col D w x) ≠ 0
theorem Eqv.refl (K : Nat) (D : Aut) (x : Int) : Eqv K D x D x := fun _ _ => rfl
theorem Eqv.symm {K : Nat} {D E : Aut} {x y : Int} (h : Eqv K D x E y) : Eqv K E y D x := fun w hw => (h w hw).symm
theorem Eqv.trans {K : Nat} {D E F : Aut} {x y z : Int} (h : Eqv K D x E y) (g : Eqv K E y F z) : Eqv K D x F z := fun w hw => (h w hw).trans (g w hw)
theorem Eqv.stp {K : Nat} {D E : Aut} {x y : Int} (h : Eqv K D x E y) {c : Nat} (hc : c < K) : Eqv K D (stp D x c) E (stp E y c) := fun w hw => h (c :: w) (by
 intro d hd
 rcases List.mem_cons.1 hd with rfl | hd
 ·exact hc
 ·exact hw d hd)
theorem Eqv.tg {K : Nat} {D E : Aut} {x y : Int} (h : Eqv K D x E y) : tg D x = tg E y := h [] (by simp)
theorem Eqv.live {K : Nat} {D E : Aut} {x y : Int} (h : Eqv K D x E y) : Live K D x ↔ Live K E y :=
 ⟨fun ⟨w, hw, hn⟩ => ⟨w, hw, by rw [← h w hw]; exact hn⟩, fun ⟨w, hw, hn⟩ => ⟨w, hw, by rw [h w hw]; exact hn⟩⟩
theorem col_neg (D : Aut) : ∀ (w : List Nat) (x : Int), x < 0 → col D w x < 0
 | [], x, h => h
 | c :: w, x, h => by rw [col]; exact col_neg D w _ (by unfold stp; rw [if_pos h]; omega)
theorem neg_dead {K : Nat} {D : Aut} {x : Int} (h : x < 0) : ¬ Live K D x := fun ⟨w, _, hn⟩ => hn (by unfold tg; rw [if_pos (col_neg D w x h)])
theorem live_nat {K : Nat} {D : Aut} {x : Int} (h : Live K D x) : 0 ≤ x := by
 rcases Int.lt_or_le x 0 with hx | hx
 ·exact absurd h (neg_dead hx)
 ·exact hx
theorem dead_eqv {K : Nat} {D E : Aut} {x y : Int} (h : ¬ Live K D x) (g : ¬ Live K E y) : Eqv K D x E y := fun w hw => by
 have h1 : tg D (col D w x) = 0 := Nat.eq_zero_of_not_pos fun hp => h ⟨w, hw, by omega⟩
 have h2 : tg E (col E w y) = 0 := Nat.eq_zero_of_not_pos fun hp => g ⟨w, hw, by omega⟩
 rw [h1, h2]
theorem dead_stp {K : Nat} {D : Aut} {x : Int} (h : ¬ Live K D x) {c : Nat} (hc : c < K) : ¬ Live K D (stp D x c) := fun ⟨w, hw, hn⟩ => h ⟨c :: w, by
 intro d hd
 rcases List.mem_cons.1 hd with rfl | hd
 ·exact hc
 ·exact hw d hd, hn⟩
structure Blk (K : Nat) (D : Aut) (B : List Int) : Prop where
 len : B.length = D.next.length
 dead : ∀ x, x < D.next.length → (B.getD x (-1) = -1 ↔ ¬ Live K D (x : Int))
 same : ∀ x y : Nat, x < D.next.length → y < D.next.length → Live K D (x : Int) → Live K D (y : Int) → (B.getD x (-1) = B.getD y (-1) ↔ Eqv K D (x : Int) D (y : Int))
def numJ (B : List Int) (z : Int) (st : List Nat) : Int × List Nat :=
 if z < 0 ∨ B.getD z.toNat (-1) = -1 then (-1, st)
 else match st.findIdx? (fun s => B.getD s (-1) == B.getD z.toNat (-1)) with
  | some i => ((i : Int), st)
  | none => ((st.length : Int), st ++ [z.toNat])
def rowJ (B : List Int) : List Int → List Int × List Nat → List Int × List Nat
 | [], s => s
 | z :: r, s => rowJ B r (s.1 ++ [(numJ B z s.2).1], (numJ B z s.2).2)
theorem rowJ_app (B : List Int) : ∀ (r q : List Int) (s : List Int × List Nat), rowJ B (r ++ q) s = rowJ B q (rowJ B r s)
 | [], q, s => rfl
 | z :: r, q, s => by rw [List.cons_append, rowJ, rowJ, rowJ_app B r q]
structure J where
 at_ : Nat
 st : List Nat
 nx : List (List Int)
 tg : List Nat
def stepJ (D : Aut) (B : List Int) (j : J) : J :=
 if j.at_ < j.st.length then
  { at_ := j.at_ + 1, st := (rowJ B (rowOf D (j.st.getD j.at_ 0)) ([], j.st)).2, nx := j.nx ++ [(rowJ B (rowOf D (j.st.getD j.at_ 0)) ([], j.st)).1], tg := j.tg ++ [D.tags.getD (j.st.getD j.at_ 0) 0] }
 else j
def iterJ (D : Aut) (B : List Int) : Nat → J
 | 0 => { at_ := 0, st := [0], nx := [], tg := [] }
 | n + 1 => stepJ D B (iterJ D B n)
def Along (K : Nat) (D E : Aut) (st su : List Nat) : Prop := st.length = su.length ∧ (∀ i, i < st.length → Eqv K D ((st.getD i 0 : Nat) : Int) E ((su.getD i 0 : Nat) : Int)) ∧ (∀ s ∈ st, s < D.next.length) ∧ ∀ s ∈ su, s < E.next.length
theorem Along.push {K : Nat} {D E : Aut} {st su : List Nat} (h : Along K D E st su) {x y : Nat} (hx : x < D.next.length) (hy : y < E.next.length) (he : Eqv K D (x : Int) E (y : Int)) : Along K D E (st ++ [x]) (su ++ [y]) := by
 refine ⟨by simp [h.1], fun i hi => ?_, fun s hs => ?_, fun s hs => ?_⟩
 ·rw [List.length_append, List.length_singleton] at hi
  by_cases hi2 : i < st.length
  ·rw [List.getD_eq_getElem?_getD, List.getElem?_append_left hi2, ← List.getD_eq_getElem?_getD, List.getD_eq_getElem?_getD (l := su ++ [y]), List.getElem?_append_left (by rw [← h.1]; exact hi2), ← List.getD_eq_getElem?_getD]
   exact h.2.1 i hi2
  ·obtain rfl : i = st.length := by omega
   rw [List.getD_eq_getElem?_getD, List.getElem?_append_right (by omega), List.getD_eq_getElem?_getD, List.getElem?_append_right (by rw [h.1]; omega), h.1, Nat.sub_self]
   exact he
 ·rcases List.mem_append.1 hs with hs | hs
  ·exact h.2.2.1 s hs
  ·rw [List.mem_singleton.1 hs]; exact hx
 ·rcases List.mem_append.1 hs with hs | hs
  ·exact h.2.2.2 s hs
  ·rw [List.mem_singleton.1 hs]; exact hy
theorem find_along {p q : Nat → Bool} : ∀ {st su : List Nat}, st.length = su.length → (∀ i, i < st.length → p (st.getD i 0) = q (su.getD i 0)) → st.findIdx? p = su.findIdx? q
 | [], [], _, _ => rfl
 | x :: st, y :: su, hl, h => by
  rw [List.findIdx?_cons, List.findIdx?_cons, show p x = q y from h 0 (by simp), find_along (st := st) (su := su) (by simpa using hl) (fun i hi => by
   have := h (i + 1) (by simpa using hi)
   simpa using this)]
theorem Blk.tells {K : Nat} {D : Aut} {B : List Int} (h : Blk K D B) {s z : Nat} (hs : s < D.next.length) (hz : z < D.next.length) (hl : Live K D (z : Int)) : (B.getD s (-1) == B.getD z (-1)) = true ↔ Eqv K D (s : Int) D (z : Int) := by
 rw [beq_iff_eq]
 by_cases hd : Live K D (s : Int)
 ·exact h.same s z hs hz hd hl
 ·constructor
  ·intro he
   exact absurd ((h.dead z hz).1 (he ▸ (h.dead s hs).2 hd)) (fun hn => hn hl)
  ·intro he
   exact absurd (he.live.2 hl) hd
theorem num_along {K : Nat} {D E : Aut} {B C : List Int} (hB : Blk K D B) (hC : Blk K E C) {st su : List Nat} (h : Along K D E st su) {z y : Int} (hz : z < (D.next.length : Int)) (hy : y < (E.next.length : Int)) (he : Eqv K D z E y) :
  (numJ B z st).1 = (numJ C y su).1 ∧ Along K D E (numJ B z st).2 (numJ C y su).2 := by
 by_cases hl : Live K D z
 ·have hl' := he.live.1 hl
  obtain ⟨a, rfl⟩ : ∃ a : Nat, z = (a : Int) := ⟨z.toNat, by have := live_nat hl; omega⟩
  obtain ⟨b, rfl⟩ : ∃ b : Nat, y = (b : Int) := ⟨y.toNat, by have := live_nat hl'; omega⟩
  have ha : a < D.next.length := by omega
  have hb : b < E.next.length := by omega
  have h1 : ¬ ((a : Int) < 0 ∨ B.getD (a : Int).toNat (-1) = -1) := fun h => h.elim (by omega) fun h => (hB.dead a ha).1 h hl
  have h2 : ¬ ((b : Int) < 0 ∨ C.getD (b : Int).toNat (-1) = -1) := fun h => h.elim (by omega) fun h => (hC.dead b hb).1 h hl'
  unfold numJ
  rw [if_neg h1, if_neg h2, Int.toNat_natCast, Int.toNat_natCast]
  have hf : st.findIdx? (fun s => B.getD s (-1) == B.getD a (-1)) = su.findIdx? (fun s => C.getD s (-1) == C.getD b (-1)) := by
   refine find_along h.1 fun i hi => ?_
   have hsi := h.2.1 i hi
   have hm1 : st.getD i 0 < D.next.length := h.2.2.1 _ (by rw [List.getD_eq_getElem?_getD, List.getElem?_eq_getElem hi]; exact List.getElem_mem hi)
   have hm2 : su.getD i 0 < E.next.length := h.2.2.2 _ (by rw [List.getD_eq_getElem?_getD, List.getElem?_eq_getElem (h.1 ▸ hi)]; exact List.getElem_mem (h.1 ▸ hi))
   rw [Bool.eq_iff_iff, hB.tells hm1 ha hl, hC.tells hm2 hb hl']
   exact ⟨fun k => hsi.symm.trans (k.trans he), fun k => hsi.trans (k.trans he.symm)⟩
  rw [hf]
  cases su.findIdx? (fun s => C.getD s (-1) == C.getD b (-1)) with
  | some i => exact ⟨rfl, h⟩
  | none => exact ⟨by rw [h.1], h.push ha hb he⟩
 ·have hl' : ¬ Live K E y := fun k => hl (he.live.2 k)
  have d1 : z < 0 ∨ B.getD z.toNat (-1) = -1 := by
   rcases Int.lt_or_le z 0 with h | h
   ·exact .inl h
   ·exact .inr ((hB.dead z.toNat (by omega)).2 (by rw [Int.toNat_of_nonneg h]; exact hl))
  have d2 : y < 0 ∨ C.getD y.toNat (-1) = -1 := by
   rcases Int.lt_or_le y 0 with h | h
   ·exact .inl h
   ·exact .inr ((hC.dead y.toNat (by omega)).2 (by rw [Int.toNat_of_nonneg h]; exact hl'))
  unfold numJ
  rw [if_pos d1, if_pos d2]
  exact ⟨rfl, h⟩
theorem row_along {K : Nat} {D E : Aut} {B C : List Int} (hB : Blk K D B) (hC : Blk K E C) : ∀ (r q : List Int) (s t : List Int × List Nat), r.length = q.length → (∀ c, c < r.length → r.getD c (-1) < (D.next.length : Int) ∧ q.getD c (-1) < (E.next.length : Int) ∧ Eqv K D (r.getD c (-1)) E (q.getD c (-1))) →
  s.1 = t.1 → Along K D E s.2 t.2 → (rowJ B r s).1 = (rowJ C q t).1 ∧ Along K D E (rowJ B r s).2 (rowJ C q t).2
 | [], [], s, t, _, _, h1, h2 => ⟨h1, h2⟩
 | z :: r, y :: q, s, t, hl, h, h1, h2 => by
  have h0 := h 0 (by simp)
  obtain ⟨k1, k2⟩ := num_along hB hC h2 h0.1 h0.2.1 h0.2.2
  rw [rowJ, rowJ]
  refine row_along hB hC r q _ _ (by simpa using hl) (fun c hc => ?_) (by show _ ++ _ = _ ++ _; rw [h1, show (numJ B z s.2).1 = (numJ C y t.2).1 from k1]) k2
  have := h (c + 1) (by simpa using hc)
  simpa using this
theorem iter_along {K : Nat} {D E : Aut} {B C : List Int} (hD : Ok D K) (hE : Ok E K) (hB : Blk K D B) (hC : Blk K E C) (h0 : Eqv K D 0 E 0) : ∀ n, (iterJ D B n).at_ = (iterJ E C n).at_ ∧ (iterJ D B n).nx = (iterJ E C n).nx ∧ (iterJ D B n).tg = (iterJ E C n).tg ∧ Along K D E (iterJ D B n).st (iterJ E C n).st
 | 0 => ⟨rfl, rfl, rfl, rfl, fun i hi => by
   obtain rfl : i = 0 := by simpa [iterJ] using hi
   exact h0, fun s hs => by rw [show s = 0 by simpa [iterJ] using hs]; exact List.length_pos_iff.2 hD.some_, fun s hs => by rw [show s = 0 by simpa [iterJ] using hs]; exact List.length_pos_iff.2 hE.some_⟩
 | n + 1 => by
  obtain ⟨h1, h2, h3, h4⟩ := iter_along hD hE hB hC h0 n
  rw [iterJ, iterJ]
  generalize iterJ D B n = j at *
  generalize iterJ E C n = k at *
  unfold stepJ
  by_cases hlt : j.at_ < j.st.length
  ·have hlt' : k.at_ < k.st.length := by rw [← h1, ← h4.1]; exact hlt
   rw [if_pos hlt, if_pos hlt']
   have hs := h4.2.1 _ hlt
   have hm1 : j.st.getD j.at_ 0 < D.next.length := h4.2.2.1 _ (by rw [List.getD_eq_getElem?_getD, List.getElem?_eq_getElem hlt]; exact List.getElem_mem hlt)
   have hm2 : k.st.getD k.at_ 0 < E.next.length := h4.2.2.2 _ (by rw [List.getD_eq_getElem?_getD, List.getElem?_eq_getElem hlt']; exact List.getElem_mem hlt')
   rw [← h1] at hm2 ⊢
   generalize j.st.getD j.at_ 0 = a at *
   generalize k.st.getD j.at_ 0 = b at *
   obtain ⟨k1, k2⟩ := row_along hB hC (rowOf D a) (rowOf E b) ([], j.st) ([], k.st) (by rw [hD.rows a hm1, hE.rows b hm2]) (fun c hc => by
    rw [hD.rows a hm1] at hc
    have e1 : stp D (a : Int) c = (rowOf D a).getD c (-1) := by unfold stp; rw [if_neg (by omega), Int.toNat_natCast]
    have e2 : stp E (b : Int) c = (rowOf E b).getD c (-1) := by unfold stp; rw [if_neg (by omega), Int.toNat_natCast]
    have m1 : (rowOf D a).getD c (-1) ∈ rowOf D a := by rw [List.getD_eq_getElem?_getD, List.getElem?_eq_getElem (by rw [hD.rows a hm1]; exact hc)]; exact List.getElem_mem _
    have m2 : (rowOf E b).getD c (-1) ∈ rowOf E b := by rw [List.getD_eq_getElem?_getD, List.getElem?_eq_getElem (by rw [hE.rows b hm2]; exact hc)]; exact List.getElem_mem _
    have := hs.stp hc
    rw [e1, e2] at this
    exact ⟨(hD.ends a hm1 _ m1).2, (hE.ends b hm2 _ m2).2, this⟩) rfl h4
   refine ⟨rfl, by show _ ++ _ = _ ++ _; rw [h2, k1], ?_, k2⟩
   have := hs.tg
   unfold tg at this
   rw [if_neg (by omega), if_neg (by omega), Int.toNat_natCast, Int.toNat_natCast] at this
   show _ ++ _ = _ ++ _
   rw [h3, this]
  ·have hlt' : ¬ k.at_ < k.st.length := by rw [← h1, ← h4.1]; exact hlt
   rw [if_neg hlt, if_neg hlt']
   exact ⟨h1, h2, h3, h4⟩
theorem iter_done {D : Aut} {B : List Int} {n : Nat} (h : ¬ (iterJ D B n).at_ < (iterJ D B n).st.length) : ∀ m, iterJ D B (n + m) = iterJ D B n
 | 0 => rfl
 | m + 1 => by rw [← Nat.add_assoc, iterJ, iter_done h m]; unfold stepJ; rw [if_neg h]
def IsJ (D : Aut) (B : List Int) (M : Aut) (st : List Nat) : Prop := M.cls = D.cls ∧ ∃ n, iterJ D B n = ⟨st.length, st, M.next, M.tags⟩
theorem IsJ.one {K : Nat} {D E : Aut} {B C : List Int} {M N : Aut} {st su : List Nat} (hD : Ok D K) (hE : Ok E K) (hB : Blk K D B) (hC : Blk K E C) (h0 : Eqv K D 0 E 0) (hc : D.cls = E.cls) (h : IsJ D B M st) (g : IsJ E C N su) : M = N := by
 obtain ⟨hm, n, hn⟩ := h
 obtain ⟨gm, m, gn⟩ := g
 have h1 := iter_done (D := D) (B := B) (n := n) (by rw [hn]; simp) m
 have h2 := iter_done (D := E) (B := C) (n := m) (by rw [gn]; simp) n
 have ha := iter_along hD hE hB hC h0 (n + m)
 rw [h1, Nat.add_comm n m, h2, hn, gn] at ha
 obtain ⟨_, a2, a3, _⟩ := ha
 cases M
 cases N
 simp_all
def Num0 (K : Nat) (D : Aut) (st : List Nat) (v z : Int) : Prop := (v = -1 ∧ ¬ Live K D z) ∨ ∃ j : Nat, v = (j : Int) ∧ j < st.length ∧ Eqv K D z D ((st.getD j 0 : Nat) : Int)
def Num (K : Nat) (D : Aut) (st : List Nat) (v z : Int) : Prop := (v = -1 ∧ ¬ Live K D z) ∨ ∃ j : Nat, v = (j : Int) ∧ j < st.length ∧ Eqv K D z D ((st.getD j 0 : Nat) : Int) ∧ Live K D z
theorem getD_app {α : Type} {l m : List α} {i : Nat} {d : α} (h : i < l.length) : (l ++ m).getD i d = l.getD i d := by
 rw [List.getD_eq_getElem?_getD, List.getElem?_append_left h, ← List.getD_eq_getElem?_getD]
theorem getD_last {α : Type} {l : List α} {x d : α} : (l ++ [x]).getD l.length d = x := by
 rw [List.getD_eq_getElem?_getD, List.getElem?_append_right (by omega), Nat.sub_self]; rfl
theorem getD_mem {α : Type} {l : List α} {i : Nat} {d : α} (h : i < l.length) : l.getD i d ∈ l := by
 rw [List.getD_eq_getElem?_getD, List.getElem?_eq_getElem h]; exact List.getElem_mem h
theorem Num.more {K : Nat} {D : Aut} {st su : List Nat} {v z : Int} (h : Num K D st v z) (hp : st <+: su) : Num K D su v z := by
 obtain ⟨t, rfl⟩ := hp
 rcases h with h | ⟨j, h1, h2, h3, h4⟩
 ·exact .inl h
 ·exact .inr ⟨j, h1, by rw [List.length_append]; omega, by rw [getD_app h2]; exact h3, h4⟩
structure StJ (D : Aut) (B : List Int) (st : List Nat) : Prop where
 first : st.head? = some 0
 lt : ∀ s ∈ st, s < D.next.length
 apart : (st.map fun s => B.getD s (-1)).Nodup
theorem nodup_len : ∀ (n : Nat) (l : List Nat), l.Nodup → (∀ x ∈ l, x < n) → l.length ≤ n
 | 0, [], _, _ => Nat.le_refl _
 | 0, x :: l, _, h => absurd (h x (by simp)) (by omega)
 | n + 1, l, hd, h => by
  have h1 := nodup_len n (l.erase n) (hd.erase n) (fun x hx => by
   have h2 := h x (List.mem_of_mem_erase hx)
   have h3 : x ≠ n := fun e => by subst e; exact absurd hx (fun hx => ((List.Nodup.mem_erase_iff hd).1 hx).1 rfl)
   omega)
  have h4 : l.length ≤ (l.erase n).length + 1 := by
   by_cases hm : n ∈ l
   ·rw [List.length_erase_of_mem hm]; omega
   ·rw [List.erase_of_not_mem hm]; omega
  omega
theorem StJ.few {D : Aut} {B : List Int} {st : List Nat} (h : StJ D B st) : st.length ≤ D.next.length := nodup_len _ st ((List.pairwise_map.1 h.apart).imp fun hab e => hab (by rw [e])) h.lt
theorem StJ.ne {D : Aut} {B : List Int} {st : List Nat} (h : StJ D B st) : 0 < st.length := by
 cases st with
 | nil => have := h.first; simp at this
 | cons => simp
theorem num_ok {K : Nat} {D : Aut} {B : List Int} (hB : Blk K D B) {st : List Nat} (h : StJ D B st) {z : Int} (hz : z < (D.next.length : Int)) :
  StJ D B (numJ B z st).2 ∧ st <+: (numJ B z st).2 ∧ Num K D (numJ B z st).2 (numJ B z st).1 z := by
 unfold numJ
 by_cases hd : z < 0 ∨ B.getD z.toNat (-1) = -1
 ·rw [if_pos hd]
  refine ⟨h, List.prefix_refl _, .inl ⟨rfl, ?_⟩⟩
  rcases hd with hd | hd
  ·exact neg_dead hd
  ·rcases Int.lt_or_le z 0 with h0 | h0
   ·exact neg_dead h0
   ·have := (hB.dead z.toNat (by omega)).1 hd
    rwa [Int.toNat_of_nonneg h0] at this
 ·rw [if_neg hd]
  obtain ⟨a, rfl⟩ : ∃ a : Nat, z = (a : Int) := ⟨z.toNat, by omega⟩
  rw [Int.toNat_natCast] at *
  have ha : a < D.next.length := by omega
  have hl : Live K D (a : Int) := Classical.byContradiction fun hn => hd (.inr ((hB.dead a ha).2 hn))
  cases hf : st.findIdx? (fun s => B.getD s (-1) == B.getD a (-1)) with
  | some i =>
   obtain ⟨hi, hp, _⟩ := List.findIdx?_eq_some_iff_getElem.1 hf
   have he : st.getD i 0 = st[i] := by rw [List.getD_eq_getElem?_getD, List.getElem?_eq_getElem hi]; rfl
   exact ⟨h, List.prefix_refl _, .inr ⟨i, rfl, hi, by rw [he]; exact ((hB.tells (h.lt _ (List.getElem_mem hi)) ha hl).1 hp).symm, hl⟩⟩
  | none =>
   have hn := List.findIdx?_eq_none_iff.1 hf
   refine ⟨⟨?_, fun s hs => ?_, ?_⟩, ⟨_, rfl⟩, .inr ⟨st.length, rfl, by simp, by rw [getD_last]; exact Eqv.refl _ _ _, hl⟩⟩
   ·cases st with
    | nil => have := h.first; simp at this
    | cons x l => exact h.first
   ·rcases List.mem_append.1 hs with hs | hs
    ·exact h.lt s hs
    ·rw [List.mem_singleton.1 hs]; exact ha
   ·rw [List.map_append, List.map_singleton]
    refine List.nodup_append.2 ⟨h.apart, by simp, fun x hx y hy => ?_⟩
    rw [List.mem_singleton] at hy
    subst hy
    obtain ⟨s, hs, rfl⟩ := List.mem_map.1 hx
    have := hn s hs
    simpa using this
theorem row_ok {K : Nat} {D : Aut} {B : List Int} (hB : Blk K D B) : ∀ (r : List Int) (R : List Int) (st : List Nat) (q : List Int), StJ D B st → (∀ z ∈ r, z < (D.next.length : Int)) → R.length = q.length → (∀ c, c < q.length → Num K D st (R.getD c (-1)) (q.getD c (-1))) →
  StJ D B (rowJ B r (R, st)).2 ∧ st <+: (rowJ B r (R, st)).2 ∧ (rowJ B r (R, st)).1.length = (q ++ r).length ∧ ∀ c, c < (q ++ r).length → Num K D (rowJ B r (R, st)).2 ((rowJ B r (R, st)).1.getD c (-1)) ((q ++ r).getD c (-1))
 | [], R, st, q, h, _, hl, hn => by rw [List.append_nil]; exact ⟨h, List.prefix_refl _, hl, hn⟩
 | z :: r, R, st, q, h, hz, hl, hn => by
  obtain ⟨h1, h2, h3⟩ := num_ok hB h (hz z (by simp))
  rw [rowJ, show q ++ z :: r = (q ++ [z]) ++ r by simp]
  obtain ⟨k1, k2, k3, k4⟩ := row_ok hB r (R ++ [(numJ B z st).1]) (numJ B z st).2 (q ++ [z]) h1 (fun y hy => hz y (by simp [hy])) (by simp [hl]) (fun c hc => by
   rw [List.length_append, List.length_singleton] at hc
   by_cases hc2 : c < q.length
   ·rw [getD_app hc2, getD_app (by omega)]
    exact (hn c hc2).more h2
   ·obtain rfl : c = q.length := by omega
    rw [getD_last, ← hl, getD_last]
    exact h3)
  exact ⟨k1, h2.trans k2, k3, k4⟩
structure InvJ (K : Nat) (D : Aut) (B : List Int) (j : J) : Prop where
 at_ : j.at_ ≤ j.st.length
 st : StJ D B j.st
 nl : j.nx.length = j.at_
 tl : j.tg.length = j.at_
 rl : ∀ i, i < j.at_ → (j.nx.getD i []).length = K
 num : ∀ i, i < j.at_ → ∀ c, c < K → Num K D j.st ((j.nx.getD i []).getD c (-1)) ((rowOf D (j.st.getD i 0)).getD c (-1))
 tg : ∀ i, i < j.at_ → j.tg.getD i 0 = D.tags.getD (j.st.getD i 0) 0
theorem step_ok {K : Nat} {D : Aut} {B : List Int} (hD : Ok D K) (hB : Blk K D B) {j : J} (h : InvJ K D B j) : InvJ K D B (stepJ D B j) := by
 unfold stepJ
 by_cases hlt : j.at_ < j.st.length
 ·rw [if_pos hlt]
  have hm : j.st.getD j.at_ 0 < D.next.length := h.st.lt _ (getD_mem hlt)
  obtain ⟨k1, k2, k3, k4⟩ := row_ok hB (rowOf D (j.st.getD j.at_ 0)) [] j.st [] h.st (fun z hz => (hD.ends _ hm z hz).2) rfl (fun c hc => by simp at hc)
  rw [List.nil_append, hD.rows _ hm] at k3
  rw [List.nil_append, hD.rows _ hm] at k4
  obtain ⟨t, ht⟩ := k2
  have hst : ∀ i, i < j.st.length → (rowJ B (rowOf D (j.st.getD j.at_ 0)) ([], j.st)).2.getD i 0 = j.st.getD i 0 := fun i hi => by rw [← ht, getD_app hi]
  refine ⟨?_, k1, by simp [h.nl], by simp [h.tl], fun i hi => ?_, fun i hi c hc => ?_, fun i hi => ?_⟩
  ·show j.at_ + 1 ≤ (rowJ B _ _).2.length
   rw [← ht, List.length_append]; omega
  ·show ((j.nx ++ [_]).getD i []).length = K
   by_cases hi2 : i < j.at_
   ·rw [getD_app (by rw [h.nl]; exact hi2)]; exact h.rl i hi2
   ·obtain rfl : i = j.nx.length := by have : i < j.at_ + 1 := hi; rw [h.nl]; omega
    rw [getD_last]; exact k3
  ·show Num K D (rowJ B _ _).2 (((j.nx ++ [_]).getD i []).getD c (-1)) ((rowOf D ((rowJ B _ _).2.getD i 0)).getD c (-1))
   by_cases hi2 : i < j.at_
   ·rw [getD_app (by rw [h.nl]; exact hi2), hst i (by omega)]
    exact (h.num i hi2 c hc).more ⟨t, ht⟩
   ·obtain rfl : i = j.at_ := by have : i < j.at_ + 1 := hi; omega
    rw [hst _ hlt]
    have e : (j.nx ++ [(rowJ B (rowOf D (j.st.getD j.at_ 0)) ([], j.st)).1]).getD j.at_ [] = (rowJ B (rowOf D (j.st.getD j.at_ 0)) ([], j.st)).1 := by
     rw [← h.nl]; exact getD_last
    rw [e]
    exact k4 c hc
  ·show (j.tg ++ [_]).getD i 0 = D.tags.getD ((rowJ B _ _).2.getD i 0) 0
   by_cases hi2 : i < j.at_
   ·rw [getD_app (by rw [h.tl]; exact hi2), hst i (by omega)]; exact h.tg i hi2
   ·obtain rfl : i = j.at_ := by have : i < j.at_ + 1 := hi; omega
    rw [hst _ hlt]
    have e : (j.tg ++ [D.tags.getD (j.st.getD j.at_ 0) 0]).getD j.at_ 0 = D.tags.getD (j.st.getD j.at_ 0) 0 := by rw [← h.tl]; exact getD_last
    exact e
 ·rw [if_neg hlt]; exact h
theorem iter_ok {K : Nat} {D : Aut} {B : List Int} (hD : Ok D K) (hB : Blk K D B) : ∀ n, InvJ K D B (iterJ D B n)
 | 0 => ⟨by simp [iterJ], ⟨rfl, fun s hs => by rw [show s = 0 by simpa [iterJ] using hs]; exact List.length_pos_iff.2 hD.some_, by simp [iterJ]⟩, rfl, rfl, fun i hi => absurd hi (by simp [iterJ]), fun i hi => absurd hi (by simp [iterJ]), fun i hi => absurd hi (by simp [iterJ])⟩
 | n + 1 => step_ok hD hB (iter_ok hD hB n)
theorem IsJ.inv {K : Nat} {D : Aut} {B : List Int} {M : Aut} {st : List Nat} (hD : Ok D K) (hB : Blk K D B) (h : IsJ D B M st) : InvJ K D B ⟨st.length, st, M.next, M.tags⟩ := by
 obtain ⟨_, n, hn⟩ := h
 rw [← hn]; exact iter_ok hD hB n
theorem IsJ.ok {K : Nat} {D : Aut} {B : List Int} {M : Aut} {st : List Nat} (hD : Ok D K) (hB : Blk K D B) (h : IsJ D B M st) : Ok M K := by
 have hi := h.inv hD hB
 have hl : M.next.length = st.length := hi.nl
 have hrl : ∀ i, i < M.next.length → (rowOf M i).length = K := fun i hil => hi.rl i (by rw [← hl]; exact hil)
 refine ⟨?_, by rw [hl]; exact hi.tl, hrl, fun i hil x hx => ?_⟩
 ·intro e
  have := hi.st.ne
  rw [← List.length_eq_zero_iff] at e
  simp only at this
  omega
 ·obtain ⟨c, hc, rfl⟩ := List.mem_iff_getElem.1 hx
  have hn := hi.num i (by rw [← hl]; exact hil) c (by rw [← hrl i hil]; exact hc)
  have e : (M.next.getD i []).getD c (-1) = (rowOf M i)[c] := by rw [List.getD_eq_getElem?_getD, show (M.next.getD i [])[c]? = (rowOf M i)[c]? from rfl, List.getElem?_eq_getElem hc]; rfl
  rw [show (J.nx ⟨st.length, st, M.next, M.tags⟩) = M.next from rfl, e] at hn
  rcases hn with ⟨e, _⟩ | ⟨j, e, hj, _⟩
  ·rw [e]; omega
  ·rw [e]
   have hj' : j < st.length := hj
   omega
theorem IsJ.few {K : Nat} {D : Aut} {B : List Int} {M : Aut} {st : List Nat} (hD : Ok D K) (hB : Blk K D B) (h : IsJ D B M st) : M.next.length ≤ D.next.length := by
 have hi := h.inv hD hB
 have hl : M.next.length = st.length := hi.nl
 have := hi.st.few
 simp only at this
 omega
theorem IsJ.eqv {K : Nat} {D : Aut} {B : List Int} {M : Aut} {st : List Nat} (hD : Ok D K) (hB : Blk K D B) (h : IsJ D B M st) : ∀ (w : List Nat), (∀ c ∈ w, c < K) → ∀ x z : Int, Num0 K D st x z → tg M (col M w x) = tg D (col D w z) := by
 have hi := h.inv hD hB
 intro w
 induction w with
 | nil =>
  intro _ x z hn
  rcases hn with ⟨rfl, hd⟩ | ⟨j, rfl, hj, he⟩
  ·show tg M (-1) = tg D z
   have : tg D z = 0 := Nat.eq_zero_of_not_pos fun hp => hd ⟨[], by simp, by rw [col]; omega⟩
   rw [this]; rfl
  ·show tg M (j : Int) = tg D z
   rw [he.tg]
   unfold tg
   rw [if_neg (by omega), if_neg (by omega), Int.toNat_natCast, Int.toNat_natCast]
   exact hi.tg j hj
 | cons c w ih =>
  intro hw x z hn
  have hc : c < K := hw c (by simp)
  rw [col, col]
  refine ih (fun d hd => hw d (by simp [hd])) _ _ ?_
  rcases hn with ⟨rfl, hd⟩ | ⟨j, rfl, hj, he⟩
  ·exact .inl ⟨rfl, dead_stp hd hc⟩
  ·have hk := he.stp hc
   have e1 : stp M (j : Int) c = (rowOf M j).getD c (-1) := by unfold stp; rw [if_neg (by omega), Int.toNat_natCast]
   have e2 : stp D ((st.getD j 0 : Nat) : Int) c = (rowOf D (st.getD j 0)).getD c (-1) := by unfold stp; rw [if_neg (by omega), Int.toNat_natCast]
   have hnum := hi.num j hj c hc
   rw [e2] at hk
   rw [e1]
   rcases hnum with ⟨e, hd⟩ | ⟨q, e, hq, hqe, _⟩
   ·exact .inl ⟨e, fun hl => hd (hk.live.1 hl)⟩
   ·exact .inr ⟨q, e, hq, hk.trans hqe⟩
theorem IsJ.first {K : Nat} {D : Aut} {B : List Int} {M : Aut} {st : List Nat} (hD : Ok D K) (hB : Blk K D B) (h : IsJ D B M st) : Eqv K M 0 D 0 := fun w hw => by
 have hi := h.inv hD hB
 have h0 : st.head? = some 0 := hi.st.first
 have hl := hi.st.ne
 refine h.eqv hD hB w hw 0 0 (.inr ⟨0, rfl, hl, ?_⟩)
 cases st with
 | nil => simp at h0
 | cons x l =>
  obtain rfl : x = 0 := by simpa using h0
  exact Eqv.refl _ _ _
theorem IsJ.again {K : Nat} {D : Aut} {B C : List Int} {M N : Aut} {st su : List Nat} (hD : Ok D K) (hB : Blk K D B) (h : IsJ D B M st) (hC : Blk K M C) (g : IsJ M C N su) : N = M := by
 have hM := h.ok hD hB
 refine IsJ.one (D := M) (E := D) hM hD hC hB (h.first hD hB) h.1 g h
theorem beh_stp {D : Aut} {K : Nat} (hD : Ok D K) (hc : ∀ b, b < 256 → 0 ≤ D.cls.getD b 0 ∧ D.cls.getD b 0 < (K : Int)) {x : Int} (hx : x < (D.next.length : Int)) (hx0 : -1 ≤ x) {b : Nat} (hb : b < 256) : behX D x b = stp D x (D.cls.getD b 0).toNat ∧ behX D x b < (D.next.length : Int) ∧ -1 ≤ behX D x b := by
 have hp := List.length_pos_iff.2 hD.some_
 unfold behX stp
 by_cases h0 : x < 0
 ·rw [if_pos (.inl h0), if_pos h0]
  exact ⟨rfl, by omega, by omega⟩
 ·rw [if_neg (by omega), if_neg h0]
  obtain ⟨i, rfl⟩ : ∃ i : Nat, x = (i : Int) := ⟨x.toNat, by omega⟩
  have hi : i < D.next.length := by omega
  rw [Int.toNat_natCast, if_neg (by rw [hD.rows i hi]; have := hc b hb; omega)]
  have hcl : (D.cls.getD b 0).toNat < (rowOf D i).length := by rw [hD.rows i hi]; have := hc b hb; omega
  have e : ∀ d : Int, (rowOf D i).getD (D.cls.getD b 0).toNat d = (rowOf D i)[(D.cls.getD b 0).toNat] := fun d => by rw [List.getD_eq_getElem?_getD, List.getElem?_eq_getElem hcl]; rfl
  rw [e, e]
  have hm := hD.ends i hi _ (List.getElem_mem hcl)
  by_cases hn : (rowOf D i)[(D.cls.getD b 0).toNat] < 0
  ·rw [if_pos (.inl hn)]
   exact ⟨by omega, by omega, by omega⟩
  ·rw [if_neg (by omega)]
   exact ⟨rfl, hm.2, hm.1⟩
theorem go_col {D : Aut} {K : Nat} (hD : Ok D K) (hc : ∀ b, b < 256 → 0 ≤ D.cls.getD b 0 ∧ D.cls.getD b 0 < (K : Int)) : ∀ (s : List UInt8) (x : Int), x < (D.next.length : Int) → -1 ≤ x → goX D s x = col D (s.map fun b => (D.cls.getD b.toNat 0).toNat) x ∧ goX D s x < (D.next.length : Int) ∧ -1 ≤ goX D s x
 | [], x, h1, h2 => ⟨rfl, h1, h2⟩
 | b :: s, x, h1, h2 => by
  obtain ⟨k1, k2, k3⟩ := beh_stp hD hc h1 h2 (b := b.toNat) b.toNat_lt
  rw [goX, List.map_cons, col, ← k1]
  exact go_col hD hc s _ k2 k3
theorem run_col {D : Aut} {K : Nat} (hD : Ok D K) (hc : ∀ b, b < 256 → 0 ≤ D.cls.getD b 0 ∧ D.cls.getD b 0 < (K : Int)) (s : List UInt8) : runX D s = tg D (col D (s.map fun b => (D.cls.getD b.toNat 0).toNat) 0) := by
 have hp := List.length_pos_iff.2 hD.some_
 obtain ⟨h1, h2, h3⟩ := go_col hD hc s 0 (by omega) (by omega)
 unfold runX tg
 rw [← h1, hD.tags]
 by_cases h : goX D s 0 < 0
 ·rw [if_pos (.inl h), if_pos h]
 ·rw [if_neg (by omega), if_neg h]
theorem IsJ.run {K : Nat} {D : Aut} {B : List Int} {M : Aut} {st : List Nat} (hD : Ok D K) (hB : Blk K D B) (h : IsJ D B M st) (hc : ∀ b, b < 256 → 0 ≤ D.cls.getD b 0 ∧ D.cls.getD b 0 < (K : Int)) (s : List UInt8) : runX M s = runX D s := by
 rw [run_col hD hc, run_col (h.ok hD hB) (by rw [h.1]; exact hc), h.1]
 refine h.first hD hB _ fun c hcm => ?_
 obtain ⟨b, _, rfl⟩ := List.mem_map.1 hcm
 have := hc b.toNat b.toNat_lt
 omega
end Go.Proofs.X6
namespace Go.Proofs.X6
open X5 (Aut rowOf behX goX runX)
set_option linter.unusedVariables false
theorem live_closed {K : Nat} {D : Aut} (hD : Ok D K) (P : Nat → Prop) (h0 : ∀ i, i < D.next.length → D.tags.getD i 0 ≠ 0 → P i)
  (h1 : ∀ p i : Nat, p < D.next.length → (i : Int) ∈ rowOf D p → P i → P p) : ∀ x : Nat, x < D.next.length → Live K D (x : Int) → P x := by
 have key : ∀ (w : List Nat), (∀ c ∈ w, c < K) → ∀ x : Nat, x < D.next.length → tg D (col D w (x : Int)) ≠ 0 → P x := by
  intro w
  induction w with
  | nil =>
   intro _ x hx hn
   refine h0 x hx ?_
   have : tg D (x : Int) ≠ 0 := hn
   unfold tg at this
   rwa [if_neg (by omega), Int.toNat_natCast] at this
  | cons c w ih =>
   intro hw x hx hn
   rw [col] at hn
   have hc : c < K := hw c (by simp)
   have e : stp D (x : Int) c = (rowOf D x).getD c (-1) := by unfold stp; rw [if_neg (by omega), Int.toNat_natCast]
   have hm : stp D (x : Int) c ∈ rowOf D x := by rw [e]; exact getD_mem (by rw [hD.rows x hx]; exact hc)
   have hb := hD.ends x hx _ hm
   generalize stp D (x : Int) c = y at *
   rcases Int.lt_or_le y 0 with hy | hy
   ·exact absurd (by unfold tg; rw [if_pos (col_neg D w y hy)]) hn
   ·obtain ⟨i, rfl⟩ : ∃ i : Nat, y = (i : Int) := ⟨y.toNat, by omega⟩
    exact h1 x i hx hm (ih (fun d hd => hw d (by simp [hd])) i (by omega) hn)
 exact fun x hx ⟨w, hw, hn⟩ => key w hw x hx hn
theorem live_tag {K : Nat} {D : Aut} {i : Nat} (h : D.tags.getD i 0 ≠ 0) : Live K D (i : Int) := ⟨[], by simp, by
 show tg D (i : Int) ≠ 0
 unfold tg
 rwa [if_neg (by omega), Int.toNat_natCast]⟩
theorem live_pred {K : Nat} {D : Aut} (hD : Ok D K) {p i : Nat} (hp : p < D.next.length) (hi : (i : Int) ∈ rowOf D p) (h : Live K D (i : Int)) : Live K D (p : Int) := by
 obtain ⟨c, hc, e⟩ := List.mem_iff_getElem.1 hi
 obtain ⟨w, hw, hn⟩ := h
 refine ⟨c :: w, fun d hd => ?_, ?_⟩
 ·rcases List.mem_cons.1 hd with rfl | hd
  ·rw [← hD.rows p hp]; exact hc
  ·exact hw d hd
 ·have e1 : stp D (p : Int) c = (i : Int) := by
   unfold stp
   rw [if_neg (by omega), Int.toNat_natCast, List.getD_eq_getElem?_getD, List.getElem?_eq_getElem hc]
   exact e
  rw [col, e1]; exact hn
def keyB (D : Aut) (B : List Int) (x : Nat) : Nat × Int × List Int := (D.tags.getD x 0, B.getD x (-1), (rowOf D x).map fun n => if n < 0 then n else B.getD n.toNat (-1))
structure Part (K : Nat) (D : Aut) (B : List Int) (c : Nat) : Prop where
 len : B.length = D.next.length
 dead : ∀ x, x < D.next.length → (B.getD x (-1) = -1 ↔ ¬ Live K D (x : Int))
 lt : c ≠ 0 → ∀ x, x < D.next.length → Live K D (x : Int) → 0 ≤ B.getD x (-1) ∧ B.getD x (-1) < (c : Int)
 all : ∀ j, j < c → ∃ x, x < D.next.length ∧ Live K D (x : Int) ∧ B.getD x (-1) = (j : Int)
 eqv : ∀ x y : Nat, x < D.next.length → y < D.next.length → Live K D (x : Int) → Live K D (y : Int) → Eqv K D (x : Int) D (y : Int) → B.getD x (-1) = B.getD y (-1)
structure Finer (K : Nat) (D : Aut) (B N : List Int) (c : Nat) : Prop where
 len : N.length = D.next.length
 dead : ∀ x, x < D.next.length → ¬ Live K D (x : Int) → N.getD x (-1) = -1
 lt : ∀ x, x < D.next.length → Live K D (x : Int) → 0 ≤ N.getD x (-1) ∧ N.getD x (-1) < (c : Int)
 all : ∀ j, j < c → ∃ x, x < D.next.length ∧ Live K D (x : Int) ∧ N.getD x (-1) = (j : Int)
 key : ∀ x y : Nat, x < D.next.length → y < D.next.length → Live K D (x : Int) → Live K D (y : Int) → (N.getD x (-1) = N.getD y (-1) ↔ keyB D B x = keyB D B y)
theorem blk_eqv {K : Nat} {D : Aut} (hD : Ok D K) {B : List Int} {c : Nat} (h : Part K D B c) {x y : Int} (hx : -1 ≤ x ∧ x < (D.next.length : Int)) (hy : -1 ≤ y ∧ y < (D.next.length : Int)) (he : Eqv K D x D y) :
  (if x < 0 then x else B.getD x.toNat (-1)) = (if y < 0 then y else B.getD y.toNat (-1)) := by
 have dead : ∀ z : Int, -1 ≤ z ∧ z < (D.next.length : Int) → ¬ Live K D z → (if z < 0 then z else B.getD z.toNat (-1)) = -1 := fun z hz hd => by
  by_cases h0 : z < 0
  ·rw [if_pos h0]; omega
  ·rw [if_neg h0]
   exact (h.dead z.toNat (by omega)).2 (by rw [Int.toNat_of_nonneg (by omega)]; exact hd)
 by_cases hl : Live K D x
 ·have hl' := he.live.1 hl
  have := live_nat hl
  have := live_nat hl'
  rw [if_neg (by omega), if_neg (by omega)]
  refine h.eqv _ _ (by omega) (by omega) ?_ ?_ ?_
  ·rw [Int.toNat_of_nonneg (by omega)]; exact hl
  ·rw [Int.toNat_of_nonneg (by omega)]; exact hl'
  ·rw [Int.toNat_of_nonneg (by omega), Int.toNat_of_nonneg (by omega)]; exact he
 ·rw [dead x hx hl, dead y hy fun k => hl (he.live.2 k)]
theorem Finer.part {K : Nat} {D : Aut} (hD : Ok D K) {B N : List Int} {c d : Nat} (h : Part K D B c) (g : Finer K D B N d) : Part K D N d where
 len := g.len
 dead x hx := ⟨fun e hl => by have := (g.lt x hx hl).1; omega, g.dead x hx⟩
 lt _ := g.lt
 all := g.all
 eqv x y hx hy lx ly he := (g.key x y hx hy lx ly).2 (by
  unfold keyB
  have h1 : D.tags.getD x 0 = D.tags.getD y 0 := by
   have := he.tg
   unfold tg at this
   rwa [if_neg (by omega), if_neg (by omega), Int.toNat_natCast, Int.toNat_natCast] at this
  rw [h1, h.eqv x y hx hy lx ly he]
  congr 2
  refine List.ext_getElem (by rw [List.length_map, List.length_map, hD.rows x hx, hD.rows y hy]) fun k hk hk' => ?_
  rw [List.length_map] at hk hk'
  rw [List.getElem_map, List.getElem_map]
  have hkK : k < K := by rw [← hD.rows x hx]; exact hk
  have e1 : stp D (x : Int) k = (rowOf D x)[k] := by unfold stp; rw [if_neg (by omega), Int.toNat_natCast, List.getD_eq_getElem?_getD, List.getElem?_eq_getElem hk]; rfl
  have e2 : stp D (y : Int) k = (rowOf D y)[k] := by unfold stp; rw [if_neg (by omega), Int.toNat_natCast, List.getD_eq_getElem?_getD, List.getElem?_eq_getElem hk']; rfl
  have hs := he.stp hkK
  rw [e1, e2] at hs
  exact blk_eqv hD h (hD.ends x hx _ (List.getElem_mem hk)) (hD.ends y hy _ (List.getElem_mem hk')) hs)
theorem cover : ∀ (k : Nat) (l : List Nat), (∀ i, i < k → i ∈ l) → k ≤ l.length
 | 0, _, _ => Nat.zero_le _
 | k + 1, l, h => by
  have h1 := cover k (l.erase k) (fun i hi => (List.mem_erase_of_ne (by omega)).2 (h i (by omega)))
  rw [List.length_erase_of_mem (h k (by omega))] at h1
  have := List.length_pos_of_mem (h k (by omega))
  omega
theorem onto_inj {m k : Nat} (f : Nat → Nat) (h : ∀ i, i < k → ∃ j, j < m ∧ f j = i) (hmk : m ≤ k) {a b : Nat} (ha : a < m) (hb : b < m) (he : f a = f b) : a = b := by
 refine Classical.byContradiction fun hne => ?_
 have := cover k (((List.range m).erase a).map f) (fun i hi => by
  obtain ⟨j, hj, rfl⟩ := h i hi
  by_cases hja : j = a
  ·subst hja
   rw [he]
   exact List.mem_map.2 ⟨b, (List.mem_erase_of_ne (fun e => hne e.symm)).2 (List.mem_range.2 hb), rfl⟩
  ·exact List.mem_map.2 ⟨j, (List.mem_erase_of_ne hja).2 (List.mem_range.2 hj), rfl⟩)
 rw [List.length_map, List.length_erase_of_mem (List.mem_range.2 ha), List.length_range] at this
 omega
theorem Finer.stays {K : Nat} {D : Aut} (hD : Ok D K) {B N : List Int} {c d : Nat} (h : Part K D B c) (g : Finer K D B N d) (hcd : d ≤ c) {x y : Nat} (hx : x < D.next.length) (hy : y < D.next.length) (lx : Live K D (x : Int)) (ly : Live K D (y : Int)) (he : B.getD x (-1) = B.getD y (-1)) : N.getD x (-1) = N.getD y (-1) := by
 have hgx := g.lt x hx lx
 have hgy := g.lt y hy ly
 have hc : c ≠ 0 := by omega
 have hf : ∀ j, ∃ i : Nat, j < d → ∃ z, z < D.next.length ∧ Live K D (z : Int) ∧ N.getD z (-1) = (j : Int) ∧ B.getD z (-1) = (i : Int) := fun j => by
  by_cases hj : j < d
  ·obtain ⟨z, hz, lz, ez⟩ := g.all j hj
   have := h.lt hc z hz lz
   exact ⟨(B.getD z (-1)).toNat, fun _ => ⟨z, hz, lz, ez, by omega⟩⟩
  ·exact ⟨0, fun h => absurd h hj⟩
 obtain ⟨f, hf⟩ := Classical.axiomOfChoice hf
 have hfz : ∀ z, z < D.next.length → Live K D (z : Int) → (f (N.getD z (-1)).toNat : Int) = B.getD z (-1) := fun z hz lz => by
  have hgz := g.lt z hz lz
  obtain ⟨u, hu, lu, eu, ku⟩ := hf (N.getD z (-1)).toNat (by omega)
  have hk := (g.key z u hz hu lz lu).1 (by omega)
  have : B.getD z (-1) = B.getD u (-1) := by
   unfold keyB at hk
   injection hk with _ hk
   injection hk with hk _
  omega
 have := onto_inj f (m := d) (k := c) (fun i hi => by
  obtain ⟨z, hz, lz, ez⟩ := h.all i hi
  have hgz := g.lt z hz lz
  have := hfz z hz lz
  exact ⟨(N.getD z (-1)).toNat, by omega, by omega⟩) hcd (a := (N.getD x (-1)).toNat) (b := (N.getD y (-1)).toNat) (by omega) (by omega) (by
   have := hfz x hx lx
   have := hfz y hy ly
   omega)
 omega
theorem Finer.blk {K : Nat} {D : Aut} (hD : Ok D K) {B N : List Int} {c d : Nat} (h : Part K D B c) (g : Finer K D B N d) (hcd : d ≤ c) : Blk K D N where
 len := g.len
 dead := (g.part hD h).dead
 same x y hx hy lx ly := by
  refine ⟨fun he => ?_, (g.part hD h).eqv x y hx hy lx ly⟩
  have key : ∀ (w : List Nat), (∀ c ∈ w, c < K) → ∀ a b : Nat, a < D.next.length → b < D.next.length → Live K D (a : Int) → Live K D (b : Int) → N.getD a (-1) = N.getD b (-1) → tg D (col D w (a : Int)) = tg D (col D w (b : Int)) := by
   intro w
   induction w with
   | nil =>
    intro _ a b ha hb la lb he
    have hk := (g.key a b ha hb la lb).1 he
    show tg D (a : Int) = tg D (b : Int)
    unfold tg
    rw [if_neg (by omega), if_neg (by omega), Int.toNat_natCast, Int.toNat_natCast]
    unfold keyB at hk
    injection hk
   | cons k w ih =>
    intro hw a b ha hb la lb he
    have hk := (g.key a b ha hb la lb).1 he
    have hkK : k < K := hw k (by simp)
    have hka : k < (rowOf D a).length := by rw [hD.rows a ha]; exact hkK
    have hkb : k < (rowOf D b).length := by rw [hD.rows b hb]; exact hkK
    have e1 : stp D (a : Int) k = (rowOf D a)[k] := by unfold stp; rw [if_neg (by omega), Int.toNat_natCast, List.getD_eq_getElem?_getD, List.getElem?_eq_getElem hka]; rfl
    have e2 : stp D (b : Int) k = (rowOf D b)[k] := by unfold stp; rw [if_neg (by omega), Int.toNat_natCast, List.getD_eq_getElem?_getD, List.getElem?_eq_getElem hkb]; rfl
    rw [col, col, e1, e2]
    have hs : (if (rowOf D a)[k] < 0 then (rowOf D a)[k] else B.getD (rowOf D a)[k].toNat (-1)) = (if (rowOf D b)[k] < 0 then (rowOf D b)[k] else B.getD (rowOf D b)[k].toNat (-1)) := by
     unfold keyB at hk
     injection hk with _ hk
     injection hk with _ hk
     have := congrArg (fun l : List Int => l[k]?) hk
     simpa [List.getElem?_map, List.getElem?_eq_getElem hka, List.getElem?_eq_getElem hkb] using this
    have ma := hD.ends a ha _ (List.getElem_mem hka)
    have mb := hD.ends b hb _ (List.getElem_mem hkb)
    generalize (rowOf D a)[k] = u at *
    generalize (rowOf D b)[k] = v at *
    have hbl : ∀ z : Int, -1 ≤ z ∧ z < (D.next.length : Int) → (Live K D z ↔ (if z < 0 then z else B.getD z.toNat (-1)) ≠ -1) := fun z hz => by
     by_cases h0 : z < 0
     ·rw [if_pos h0]
      exact ⟨fun hl => absurd hl (neg_dead h0), fun hn => by omega⟩
     ·rw [if_neg h0]
      have := h.dead z.toNat (by omega)
      rw [Int.toNat_of_nonneg (by omega)] at this
      constructor
      ·exact fun hl e => this.1 e hl
      ·exact fun hn => Classical.byContradiction fun hl => hn (this.2 hl)
    by_cases lu : Live K D u
    ·have lv : Live K D v := (hbl v mb).2 (by rw [← hs]; exact (hbl u ma).1 lu)
     have hu0 := live_nat lu
     have hv0 := live_nat lv
     rw [if_neg (by omega), if_neg (by omega)] at hs
     obtain ⟨i, rfl⟩ : ∃ i : Nat, u = (i : Int) := ⟨u.toNat, by omega⟩
     obtain ⟨j, rfl⟩ : ∃ j : Nat, v = (j : Int) := ⟨v.toNat, by omega⟩
     rw [Int.toNat_natCast, Int.toNat_natCast] at hs
     exact ih (fun d hd => hw d (by simp [hd])) i j (by omega) (by omega) lu lv (g.stays hD h hcd (by omega) (by omega) lu lv hs)
    ·have lv : ¬ Live K D v := fun lv => lu ((hbl u ma).2 (by rw [hs]; exact (hbl v mb).1 lv))
     exact dead_eqv lu lv w (fun d hd => hw d (by simp [hd]))
  exact fun w hw => key w hw x y hx hy lx ly he
theorem Part.first {K : Nat} {D : Aut} {B : List Int} (hl : B.length = D.next.length) (hd : ∀ x, x < D.next.length → ((Live K D (x : Int) ∧ B.getD x (-1) = 0) ∨ (¬ Live K D (x : Int) ∧ B.getD x (-1) = -1))) : Part K D B 0 where
 len := hl
 dead x hx := by
  rcases hd x hx with ⟨h, e⟩ | ⟨h, e⟩
  ·rw [e]; exact ⟨fun e => by omega, fun hn => absurd h hn⟩
  ·rw [e]; exact ⟨fun _ => h, fun _ => rfl⟩
 lt h := absurd rfl h
 all j hj := absurd hj (by omega)
 eqv x y hx hy lx ly _ := by
  rcases hd x hx with ⟨_, e⟩ | ⟨h, _⟩
  ·rcases hd y hy with ⟨_, e2⟩ | ⟨h, _⟩
   ·rw [e, e2]
   ·exact absurd ly h
  ·exact absurd lx h
end Go.Proofs.X6
namespace Go.Proofs.X6
open X5 (Aut rowOf behX goX runX)
set_option linter.unusedVariables false
theorem IsJ.none_ {K : Nat} {D : Aut} {B : List Int} {M : Aut} {st : List Nat} (hD : Ok D K) (hB : Blk K D B) (h : IsJ D B M st) (h0 : ∀ t ∈ D.tags, t = 0) : ∃ R, M.next = [R] ∧ R.length = K ∧ (∀ x ∈ R, x = -1) ∧ M.tags = [0] := by
 have hdead : ∀ z : Int, ¬ Live K D z := fun z ⟨w, _, hn⟩ => hn (by
  unfold tg
  split
  ·rfl
  ·rw [List.getD_eq_getElem?_getD]
   cases e : D.tags[(col D w z).toNat]? with
   | none => rfl
   | some t => exact h0 t (List.mem_of_getElem? e))
 have hi := h.inv hD hB
 have h1 : st.length = 1 := by
  have hne := hi.st.ne
  cases hst : st with
  | nil => rw [hst] at hne; simp at hne
  | cons x l =>
   cases l with
   | nil => rfl
   | cons y l =>
    exfalso
    have ha := hi.st.apart
    have hlt := hi.st.lt
    simp only [hst] at ha hlt
    have hx := (hB.dead x (hlt x (by simp))).2 (hdead _)
    have hy := (hB.dead y (hlt y (by simp))).2 (hdead _)
    rw [List.map_cons, List.map_cons, hx, hy] at ha
    simp at ha
 have hnl : M.next.length = 1 := by have : M.next.length = st.length := hi.nl; omega
 have htl : M.tags.length = 1 := by have : M.tags.length = st.length := hi.tl; omega
 obtain ⟨R, hR⟩ := List.length_eq_one_iff.1 hnl
 obtain ⟨t, ht⟩ := List.length_eq_one_iff.1 htl
 have hrl : R.length = K := by
  have := hi.rl 0 (by show 0 < st.length; omega)
  simp only [hR] at this
  exact this
 refine ⟨R, hR, hrl, fun x hx => ?_, ?_⟩
 ·obtain ⟨c, hc, rfl⟩ := List.mem_iff_getElem.1 hx
  have := hi.num 0 (by show 0 < st.length; omega) c (by omega)
  simp only [hR] at this
  rcases this with ⟨e, _⟩ | ⟨_, _, _, _, hl⟩
  ·rw [show ([R] : List (List Int)).getD 0 [] = R from rfl, List.getD_eq_getElem?_getD, List.getElem?_eq_getElem hc] at e
   exact e
  ·exact absurd hl (hdead _)
 ·have := hi.tg 0 (by show 0 < st.length; omega)
  simp only [ht] at this
  rw [ht, show t = D.tags.getD (st.getD 0 0) 0 from this]
  congr 1
  rw [List.getD_eq_getElem?_getD]
  cases e : D.tags[(st.getD 0 0)]? with
  | none => rfl
  | some t => exact h0 t (List.mem_of_getElem? e)
def oth (n : Nat) (x : Int) : Int := if 0 < x then (n : Int) - x else x
def from_ (n i : Nat) : Nat := if 0 < i then n - i else 0
structure Turned (K : Nat) (D E : Aut) : Prop where
 cls : E.cls = D.cls
 len : E.next.length = D.next.length
 tl : E.tags.length = D.next.length
 row : ∀ i, i < D.next.length → rowOf E i = (rowOf D (from_ D.next.length i)).map (oth D.next.length)
 tag : ∀ i, i < D.next.length → E.tags.getD i 0 = D.tags.getD (from_ D.next.length i) 0
theorem from_lt {n i : Nat} (h : i < n) : from_ n i < n := by unfold from_; split <;> omega
theorem Turned.ok {K : Nat} {D E : Aut} (hD : Ok D K) (h : Turned K D E) : Ok E K := by
 have hp := List.length_pos_iff.2 hD.some_
 refine ⟨fun e => by have := h.len; rw [e] at this; simp at this; omega, by rw [h.tl, h.len], fun i hi => ?_, fun i hi x hx => ?_⟩
 ·rw [h.len] at hi
  rw [h.row i hi, List.length_map, hD.rows _ (from_lt hi)]
 ·rw [h.len] at hi ⊢
  rw [h.row i hi] at hx
  obtain ⟨y, hy, rfl⟩ := List.mem_map.1 hx
  have := hD.ends _ (from_lt hi) y hy
  unfold oth
  split <;> omega
theorem Turned.eqv {K : Nat} {D E : Aut} (hD : Ok D K) (h : Turned K D E) : Eqv K D 0 E 0 := by
 have hp := List.length_pos_iff.2 hD.some_
 have key : ∀ (w : List Nat), (∀ c ∈ w, c < K) → ∀ x : Int, -1 ≤ x ∧ x < (D.next.length : Int) → tg D (col D w x) = tg E (col E w (oth D.next.length x)) := by
  intro w
  induction w with
  | nil =>
   intro _ x hx
   show tg D x = tg E (oth D.next.length x)
   unfold tg
   by_cases h0 : x < 0
   ·rw [if_pos h0, if_pos (by unfold oth; split <;> omega)]
   ·have hb : 0 ≤ oth D.next.length x ∧ oth D.next.length x < (D.next.length : Int) := by unfold oth; split <;> omega
    rw [if_neg h0, if_neg (by omega), h.tag _ (by omega)]
    congr 1
    unfold from_ oth
    split <;> split <;> omega
  | cons c w ih =>
   intro hw x hx
   have hc : c < K := hw c (by simp)
   have hs : -1 ≤ stp D x c ∧ stp D x c < (D.next.length : Int) := by
    unfold stp
    split
    ·omega
    ·exact hD.ends x.toNat (by omega) _ (getD_mem (by rw [hD.rows _ (by omega)]; exact hc))
   have e : stp E (oth D.next.length x) c = oth D.next.length (stp D x c) := by
    by_cases h0 : x < 0
    ·have h1 : oth D.next.length x < 0 := by unfold oth; split <;> omega
     have e1 : stp E (oth D.next.length x) c = -1 := by unfold stp; rw [if_pos h1]
     have e2 : stp D x c = -1 := by unfold stp; rw [if_pos h0]
     rw [e1, e2]; rfl
    ·have hb : 0 ≤ oth D.next.length x ∧ oth D.next.length x < (D.next.length : Int) := by unfold oth; split <;> omega
     have hfr : from_ D.next.length (oth D.next.length x).toNat = x.toNat := by unfold from_ oth; split <;> split <;> omega
     have hcl : c < (rowOf D x.toNat).length := by rw [hD.rows _ (by omega)]; exact hc
     unfold stp
     rw [if_neg (by omega), if_neg h0, h.row _ (by omega), hfr, List.getD_eq_getElem?_getD, List.getElem?_map, List.getElem?_eq_getElem hcl, List.getD_eq_getElem?_getD, List.getElem?_eq_getElem hcl]
     rfl
   rw [col, col, e]
   exact ih (fun d hd => hw d (by simp [hd])) _ hs
 exact fun w hw => key w hw 0 (by omega)
section
variable {κ : Type} [BEq κ] [LawfulBEq κ]
def nums (f : Nat → κ) (alive : Nat → Bool) : Nat → List Int × List κ
 | 0 => ([], [])
 | k + 1 => if alive k then (if (nums f alive k).2.contains (f k) then ((nums f alive k).1 ++ [((nums f alive k).2.idxOf (f k) : Int)], (nums f alive k).2) else ((nums f alive k).1 ++ [((nums f alive k).2.length : Int)], (nums f alive k).2 ++ [f k])) else ((nums f alive k).1 ++ [-1], (nums f alive k).2)
structure NumsOk (f : Nat → κ) (alive : Nat → Bool) (k : Nat) (N : List Int) (M : List κ) : Prop where
 len : N.length = k
 nodup : M.Nodup
 on : ∀ x, x < k → alive x = true → ∃ i : Nat, N.getD x (-1) = (i : Int) ∧ M[i]? = some (f x)
 off : ∀ x, x < k → alive x = false → N.getD x (-1) = -1
 all : ∀ i, i < M.length → ∃ x, x < k ∧ alive x = true ∧ M[i]? = some (f x)
theorem nums_ok (f : Nat → κ) (alive : Nat → Bool) : ∀ k, NumsOk f alive k (nums f alive k).1 (nums f alive k).2
 | 0 => ⟨rfl, by simp [nums], fun x hx => absurd hx (by omega), fun x hx => absurd hx (by omega), fun i hi => absurd hi (by simp [nums])⟩
 | k + 1 => by
  have h := nums_ok f alive k
  rw [nums]
  generalize (nums f alive k).1 = N at *
  generalize (nums f alive k).2 = M at *
  have old : ∀ (v : Int) x, x < k → (N ++ [v]).getD x (-1) = N.getD x (-1) := fun v x hx => getD_app (by rw [h.len]; exact hx)
  have new : ∀ (v : Int), (N ++ [v]).getD k (-1) = v := fun v => by rw [← h.len]; exact getD_last
  by_cases ha : alive k = true
  ·rw [if_pos ha]
   by_cases hc : M.contains (f k) = true
   ·rw [if_pos hc]
    have hm : f k ∈ M := by simpa using hc
    refine ⟨by simp [h.len], h.nodup, fun x hx hax => ?_, fun x hx hax => ?_, fun i hi => ?_⟩
    ·by_cases hx2 : x < k
     ·rw [old _ x hx2]; exact h.on x hx2 hax
     ·obtain rfl : x = k := by omega
      rw [new]
      exact ⟨_, rfl, by
       rw [List.getElem?_eq_getElem (List.idxOf_lt_length_of_mem hm)]
       simp⟩
    ·by_cases hx2 : x < k
     ·rw [old _ x hx2]; exact h.off x hx2 hax
     ·obtain rfl : x = k := by omega
      rw [ha] at hax; cases hax
    ·obtain ⟨x, hx, h1, h2⟩ := h.all i hi
     exact ⟨x, by omega, h1, h2⟩
   ·rw [if_neg hc]
    have hm : f k ∉ M := by simpa using hc
    refine ⟨by simp [h.len], ?_, fun x hx hax => ?_, fun x hx hax => ?_, fun i hi => ?_⟩
    ·refine List.nodup_append.2 ⟨h.nodup, by simp, fun a ha b hb => ?_⟩
     rw [List.mem_singleton] at hb
     subst hb
     exact fun e => hm (e ▸ ha)
    ·by_cases hx2 : x < k
     ·rw [old _ x hx2]
      obtain ⟨i, h1, h2⟩ := h.on x hx2 hax
      exact ⟨i, h1, by rw [List.getElem?_append_left (List.getElem?_eq_some_iff.1 h2).1]; exact h2⟩
     ·obtain rfl : x = k := by omega
      rw [new]
      exact ⟨_, rfl, by rw [List.getElem?_append_right (by omega), Nat.sub_self]; rfl⟩
    ·by_cases hx2 : x < k
     ·rw [old _ x hx2]; exact h.off x hx2 hax
     ·obtain rfl : x = k := by omega
      rw [ha] at hax; cases hax
    ·rw [List.length_append, List.length_singleton] at hi
     by_cases hi2 : i < M.length
     ·obtain ⟨x, hx, h1, h2⟩ := h.all i hi2
      exact ⟨x, by omega, h1, by rw [List.getElem?_append_left hi2]; exact h2⟩
     ·obtain rfl : i = M.length := by omega
      exact ⟨k, by omega, ha, by rw [List.getElem?_append_right (by omega), Nat.sub_self]; rfl⟩
  ·rw [if_neg ha]
   refine ⟨by simp [h.len], h.nodup, fun x hx hax => ?_, fun x hx hax => ?_, fun i hi => ?_⟩
   ·by_cases hx2 : x < k
    ·rw [old _ x hx2]; exact h.on x hx2 hax
    ·obtain rfl : x = k := by omega
     exact absurd hax ha
   ·by_cases hx2 : x < k
    ·rw [old _ x hx2]; exact h.off x hx2 hax
    ·obtain rfl : x = k := by omega
     exact new _
   ·obtain ⟨x, hx, h1, h2⟩ := h.all i hi
    exact ⟨x, by omega, h1, h2⟩
end
section
variable {κ : Type}
theorem NumsOk.same {f : Nat → κ} {alive : Nat → Bool} {k : Nat} {N : List Int} {M : List κ} (h : NumsOk f alive k N M) {x y : Nat} (hx : x < k) (hy : y < k) (ax : alive x = true) (ay : alive y = true) : N.getD x (-1) = N.getD y (-1) ↔ f x = f y := by
 obtain ⟨i, h1, h2⟩ := h.on x hx ax
 obtain ⟨j, h3, h4⟩ := h.on y hy ay
 obtain ⟨hi, e1⟩ := List.getElem?_eq_some_iff.1 h2
 obtain ⟨hj, e2⟩ := List.getElem?_eq_some_iff.1 h4
 rw [h1, h3]
 constructor
 ·intro e
  obtain rfl : i = j := by omega
  rw [← e1, ← e2]
 ·intro e
  have := (List.getElem?_inj hi h.nodup).1 (h2.trans (by rw [h4, e]))
  omega
theorem NumsOk.finer {f : Nat → κ} {alive : Nat → Bool} {N : List Int} {M : List κ} {K : Nat} {D : Aut} {B : List Int} (h : NumsOk f alive D.next.length N M) (ha : ∀ x, x < D.next.length → (alive x = true ↔ Live K D (x : Int)))
  (hf : ∀ x y, x < D.next.length → y < D.next.length → (f x = f y ↔ keyB D B x = keyB D B y)) : Finer K D B N M.length where
 len := h.len
 dead x hx hd := h.off x hx (by
  cases e : alive x with
  | false => rfl
  | true => exact absurd ((ha x hx).1 e) hd)
 lt x hx hl := by
  obtain ⟨i, h1, h2⟩ := h.on x hx ((ha x hx).2 hl)
  have := (List.getElem?_eq_some_iff.1 h2).1
  omega
 all j hj := by
  obtain ⟨x, hx, h1, h2⟩ := h.all j hj
  obtain ⟨i, h3, h4⟩ := h.on x hx h1
  refine ⟨x, hx, (ha x hx).1 h1, ?_⟩
  obtain ⟨hi, e1⟩ := List.getElem?_eq_some_iff.1 h4
  obtain ⟨hj, e2⟩ := List.getElem?_eq_some_iff.1 h2
  have := (List.getElem?_inj hi h.nodup).1 (h4.trans h2.symm)
  rw [h3, this]
 key x y hx hy lx ly := (h.same hx hy ((ha x hx).2 lx) ((ha y hy).2 ly)).trans (hf x y hx hy)
end
end Go.Proofs.X6
