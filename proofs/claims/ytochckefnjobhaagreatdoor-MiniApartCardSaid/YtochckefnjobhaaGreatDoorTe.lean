/- Of a least automaton no two states are alike, and each is live, but one that is alone. -/
import Derived.Test.YtochckefnjobhaaGreatDoorAKs
import Derived.Test.YtochckefnjobhaaGreatDoorTa
namespace Go.Proofs.X6
open X5 (Aut rowOf)
set_option linter.unusedVariables false
theorem IsL.vd {D M : Aut} (hv : Vd D) (h : IsL D M) : Vd M :=
 ⟨by rw [h.row hv]; exact h.ok hv, fun c hc => by rw [h.row hv]; rw [h.cls] at hc; exact hv.cls c hc⟩
theorem IsL.small {D M : Aut} (hv : Vd D) (hf : Few D) (h : IsL D M) : Few M := by
 have h1 := h.few hv
 have h2 := h.row hv
 have h3 := (h.ok hv).tags
 obtain ⟨f1, f2, f3, f4⟩ := hf
 refine ⟨by omega, by omega, by omega, ?_⟩
 rw [h2]
 exact Nat.le_trans (Nat.mul_le_mul_right _ h1) f4
theorem num_live {K : Nat} {D : Aut} {B : List Int} (hB : Blk K D B) {st : List Nat} {z : Int} (hz : z < (D.next.length : Int)) : (numJ B z st).2 = st ∨ (Live K D z ∧ ∃ a : Nat, z = (a : Int) ∧ (numJ B z st).2 = st ++ [a]) := by
 unfold numJ
 by_cases hd : z < 0 ∨ B.getD z.toNat (-1) = -1
 ·rw [if_pos hd]; exact .inl rfl
 ·rw [if_neg hd]
  cases hf : st.findIdx? (fun s => B.getD s (-1) == B.getD z.toNat (-1)) with
  | some i => exact .inl rfl
  | none =>
   obtain ⟨a, rfl⟩ : ∃ a : Nat, z = (a : Int) := ⟨z.toNat, by omega⟩
   rw [Int.toNat_natCast] at *
   exact .inr ⟨Classical.byContradiction fun hn => hd (.inr ((hB.dead a (by omega)).2 hn)), a, rfl, rfl⟩
theorem row_live {K : Nat} {D : Aut} {B : List Int} (hB : Blk K D B) : ∀ (r R : List Int) (st : List Nat), (∀ z ∈ r, z < (D.next.length : Int)) →
  (∀ s ∈ (rowJ B r (R, st)).2, s ∈ st ∨ Live K D (s : Int)) ∧ ((rowJ B r (R, st)).2 = st ∨ ∃ i : Nat, (i : Int) ∈ r ∧ Live K D (i : Int))
 | [], R, st, _ => ⟨fun s hs => .inl hs, .inl rfl⟩
 | z :: r, R, st, hz => by
  obtain ⟨k1, k2⟩ := row_live hB r (R ++ [(numJ B z st).1]) (numJ B z st).2 (fun y hy => hz y (by simp [hy]))
  rw [rowJ]
  rcases num_live hB (st := st) (hz z (by simp)) with e | ⟨hl, a, rfl, e⟩
  ·rw [e] at k1 k2
   rw [e]
   exact ⟨k1, k2.imp id fun ⟨i, hi, h⟩ => ⟨i, by simp [hi], h⟩⟩
  ·rw [e] at k1
   rw [e]
   refine ⟨fun s hs => ?_, .inr ⟨a, by simp, hl⟩⟩
   rcases k1 s hs with h | h
   ·rcases List.mem_append.1 h with h | h
    ·exact .inl h
    ·rw [List.mem_singleton.1 h]; exact .inr hl
   ·exact .inr h
theorem iter_live {K : Nat} {D : Aut} {B : List Int} (hD : Ok D K) (hB : Blk K D B) : ∀ n, (∀ s ∈ (iterJ D B n).st, s = 0 ∨ Live K D (s : Int)) ∧ (1 < (iterJ D B n).st.length → Live K D 0)
 | 0 => ⟨fun s hs => .inl (by simpa [iterJ] using hs), fun h => absurd h (by simp [iterJ])⟩
 | n + 1 => by
  obtain ⟨i1, i2⟩ := iter_live hD hB n
  have hi := iter_ok hD hB n
  rw [iterJ]
  generalize iterJ D B n = j at *
  unfold stepJ
  by_cases hlt : j.at_ < j.st.length
  ·rw [if_pos hlt]
   have hm := hi.st.lt _ (getD_mem (d := 0) hlt)
   obtain ⟨k1, k2⟩ := row_live hB (rowOf D (j.st.getD j.at_ 0)) [] j.st (fun z hz => (hD.ends _ hm z hz).2)
   refine ⟨fun s hs => (k1 s hs).elim (i1 s) .inr, fun h => ?_⟩
   rcases k2 with e | ⟨i, hi2, hl⟩
   ·exact i2 (by have h : 1 < (rowJ B (rowOf D (j.st.getD j.at_ 0)) ([], j.st)).2.length := h; rwa [e] at h)
   ·have hp := live_pred hD hm hi2 hl
    by_cases h0 : j.st.getD j.at_ 0 = 0
    ·rw [h0] at hp; exact hp
    ·refine i2 ?_
     rcases Nat.lt_or_ge 1 j.st.length with h1 | h1
     ·exact h1
     ·have h2 : j.at_ = 0 := by omega
      rw [h2] at h0
      have hf := hi.st.first
      rw [List.getD_eq_getElem?_getD, ← List.head?_eq_getElem?, hf] at h0
      exact absurd rfl h0
  ·rw [if_neg hlt]; exact ⟨i1, i2⟩
theorem IsJ.each {K : Nat} {D : Aut} {B : List Int} {M : Aut} {st : List Nat} (hD : Ok D K) (hB : Blk K D B) (h : IsJ D B M st) {i : Nat} (hi : i < st.length) : Eqv K M (i : Int) D ((st.getD i 0 : Nat) : Int) := fun w hw => h.eqv hD hB w hw _ _ (.inr ⟨i, rfl, hi, Eqv.refl _ _ _⟩)
theorem IsJ.apart {K : Nat} {D : Aut} {B : List Int} {M : Aut} {st : List Nat} (hD : Ok D K) (hB : Blk K D B) (h : IsJ D B M st) {i k : Nat} (hi : i < st.length) (hk : k < st.length) (hne : i ≠ k) : ¬ Eqv K M (i : Int) M (k : Int) := fun he => by
 have hj := (h.inv hD hB).st
 have h1 := ((h.each hD hB hi).symm.trans he).trans (h.each hD hB hk)
 have hs := hj.lt _ (getD_mem (d := 0) hi)
 have ht := hj.lt _ (getD_mem (d := 0) hk)
 have hb : B.getD (st.getD i 0) (-1) = B.getD (st.getD k 0) (-1) := by
  by_cases hl : Live K D ((st.getD i 0 : Nat) : Int)
  ·exact (hB.same _ _ hs ht hl (h1.live.1 hl)).2 h1
  ·rw [(hB.dead _ hs).2 hl, (hB.dead _ ht).2 (fun hn => hl (h1.live.2 hn))]
 have hp := List.pairwise_iff_getElem.1 hj.apart
 have g1 : st.getD i 0 = st[i] := by rw [List.getD_eq_getElem?_getD, List.getElem?_eq_getElem hi]; rfl
 have g2 : st.getD k 0 = st[k] := by rw [List.getD_eq_getElem?_getD, List.getElem?_eq_getElem hk]; rfl
 rw [g1, g2] at hb
 rcases Nat.lt_or_gt_of_ne hne with hl | hl
 ·exact hp i k (by simpa using hi) (by simpa using hk) hl (by simpa using hb)
 ·exact hp k i (by simpa using hk) (by simpa using hi) hl (by simpa using hb.symm)
theorem IsL.apart {D M : Aut} (hv : Vd D) (h : IsL D M) {i k : Nat} (hi : i < M.next.length) (hk : k < M.next.length) (hne : i ≠ k) : ¬ Eqv (rowOf D 0).length M (i : Int) M (k : Int) := by
 obtain ⟨B, st, hB, hJ⟩ := h
 have hD := hv.ok
 have hl := (hJ.inv hD hB).nl
 have hl : M.next.length = st.length := hl
 exact hJ.apart hD hB (by omega) (by omega) hne
theorem IsL.live {D M : Aut} (hv : Vd D) (h : IsL D M) (h1 : 1 < M.next.length) {i : Nat} (hi : i < M.next.length) : Live (rowOf D 0).length M (i : Int) := by
 obtain ⟨B, st, hB, hJ⟩ := h
 have hD := hv.ok
 have hl : M.next.length = st.length := (hJ.inv hD hB).nl
 rw [(hJ.each hD hB (show i < st.length by omega)).live]
 obtain ⟨_, n, hn⟩ := hJ
 have h2 := iter_live hD hB n
 rw [hn] at h2
 rcases h2.1 _ (getD_mem (d := 0) (show i < st.length by omega)) with e | e
 ·rw [e]; exact h2.2 (show 1 < st.length by omega)
 ·exact e
end Go.Proofs.X6
