/- Plain mathematics: places with any place to stop at; machines of several regexes. -/
import Derived.Test.YtochckefnjobhaaGreatDoorXf
set_option linter.unusedVariables false
namespace Go.Proofs.X4
open Go Go.Proofs.X3
inductive RunZ (z : Nat) (P : List Pl) : Nat → Nat → List UInt8 → Prop
 | stop : RunZ z P 0 z []
 | eps (p q k : Nat) (s : List UInt8) (pl : Pl) (h : P[p]? = some pl) (hq : q ∈ pl.also) (hr : RunZ z P k q s) : RunZ z P (k + 1) p s
 | byte (p k : Nat) (x : UInt8) (s : List UInt8) (pl : Pl) (h : P[p]? = some pl) (hx : hasX pl.b x.toNat = true) (hr : RunZ z P k pl.next s) : RunZ z P (k + 1) p (x :: s)
def LangZ (z : Nat) (Q : List Pl) (f : Nat) (r : RX) (b : Nat) : Prop :=
 (∀ k s, RunZ z Q k f s → ∃ s1 s2 k', s = s1 ++ s2 ∧ Mt r s1 ∧ k' ≤ k ∧ RunZ z Q k' b s2) ∧
 (∀ s1 s2, Mt r s1 → (∃ k, RunZ z Q k b s2) → ∃ k, RunZ z Q k f (s1 ++ s2))
def LangZL (z : Nat) (Q : List Pl) (f : Nat) (l : List RX) (b : Nat) : Prop :=
 (∀ k s, RunZ z Q k f s → ∃ s1 s2 k', s = s1 ++ s2 ∧ MtL l s1 ∧ k' ≤ k ∧ RunZ z Q k' b s2) ∧
 (∀ s1 s2, MtL l s1 → (∃ k, RunZ z Q k b s2) → ∃ k, RunZ z Q k f (s1 ++ s2))
theorem runZ_at {z : Nat} {Q : List Pl} {k p : Nat} {s : List UInt8} {pl : Pl} (hp : Q[p]? = some pl) (h0 : p ≠ z) (h : RunZ z Q k p s) :
  ∃ k', k = k' + 1 ∧ ((∃ q, q ∈ pl.also ∧ RunZ z Q k' q s) ∨ (∃ x s', s = x :: s' ∧ hasX pl.b x.toNat = true ∧ RunZ z Q k' pl.next s')) := by
 cases h with
 | stop => exact absurd rfl h0
 | eps _ q k s pl' h hq hr =>
  rw [hp] at h; obtain rfl := Option.some.inj h
  exact ⟨k, rfl, .inl ⟨q, hq, hr⟩⟩
 | byte _ k x s pl' h hx hr =>
  rw [hp] at h; obtain rfl := Option.some.inj h
  exact ⟨k, rfl, .inr ⟨x, s, rfl, hx, hr⟩⟩
theorem star_runZ {z : Nat} {Q : List Pl} {a b f : Nat} {r : RX} (h0 : a ≠ z) (ha : Q[a]? = some ⟨.empty, 0, [b, f]⟩) (hL : LangZ z Q f r a) : LangZ z Q a (.star r) b := by
 constructor
 ·intro k
  induction k using Nat.strongRecOn with
  | _ k ih =>
   intro s h
   obtain ⟨k', rfl, h1 | h1⟩ := runZ_at ha h0 h
   ·obtain ⟨q, hq, hr⟩ := h1
    simp only [List.mem_cons, List.not_mem_nil, or_false] at hq
    rcases hq with rfl | rfl
    ·exact ⟨[], s, k', rfl, .star0 r, by omega, hr⟩
    ·obtain ⟨s1, s2, k2, rfl, hm, hk, hr2⟩ := hL.1 _ _ hr
     obtain ⟨s3, s4, k3, rfl, hm2, hk2, hr3⟩ := ih k2 (by omega) s2 hr2
     exact ⟨s1 ++ s3, s4, k3, by simp, .star1 r s1 s3 hm hm2, by omega, hr3⟩
   ·obtain ⟨x, s', _, hx, _⟩ := h1
    cases hx
 ·intro s1 s2 hm hb
  obtain ⟨L, hL2, rfl⟩ := star_list hm rfl
  clear hm
  induction L with
  | nil =>
   obtain ⟨k, hk⟩ := hb
   exact ⟨k + 1, .eps a b k _ _ ha (by simp) hk⟩
  | cons t L ih =>
   obtain ⟨k, hk⟩ := hL.2 t (L.flatten ++ s2) (hL2 t (by simp)) (ih fun x hx => hL2 x (by simp [hx]))
   exact ⟨k + 1, .eps a f k _ _ ha (by simp) (by simpa using hk)⟩
def Off (z n M : Nat) : Prop := ∀ k, n ≤ k → k < M → k ≠ z
theorem Off.up {z n m M : Nat} (h : Off z n M) (hn : n ≤ m) : Off z m M := fun k h1 h2 => h k (by omega) h2
mutual
theorem lay_langZ (z M : Nat) : ∀ (r : RX) (b : Nat) (P Q : List Pl), Off z P.length M → (layX r b P).2.length ≤ M → Agree Q (layX r b P).2 P.length → LangZ z Q (layX r b P).1 r b
 | .empty, b, P, Q, h0, hM, hQ => ⟨fun k s h => ⟨[], s, k, rfl, .empty, Nat.le_refl _, h⟩, fun s1 s2 h hb => by rw [mt_empty_inv h]; exact hb⟩
 | .bytes x y z' u, b, P, Q, h0, hM, hQ => by
  have hp : Q[P.length]? = some ⟨.bytes x y z' u, b, []⟩ := by
   rw [hQ P.length (Nat.le_refl _) (by simp [layX])]; simp [layX]
  have hne : P.length ≠ z := h0 _ (Nat.le_refl _) (by simp [layX] at hM; omega)
  simp only [layX]
  constructor
  ·intro k s h
   obtain ⟨k', rfl, h1 | h1⟩ := runZ_at hp hne h
   ·obtain ⟨q, hq, _⟩ := h1; cases hq
   ·obtain ⟨c, s', rfl, hx, hr⟩ := h1
    exact ⟨[c], s', k', rfl, has_byte.1 hx, by omega, hr⟩
  ·intro s1 s2 hm hb
   obtain ⟨c, rfl⟩ := mt_bytes_inv hm
   obtain ⟨k, hk⟩ := hb
   exact ⟨k + 1, .byte _ k c s2 _ hp (has_byte.2 hm) hk⟩
 | .cat l, b, P, Q, h0, hM, hQ => by
  have h := layCat_langZ z M l b P Q h0 hM hQ
  simp only [layX]
  refine ⟨fun k s hr => ?_, fun s1 s2 hm hb => h.2 s1 s2 (mt_cat_inv hm) hb⟩
  obtain ⟨s1, s2, k', h1, h2, h3, h4⟩ := h.1 k s hr
  exact ⟨s1, s2, k', h1, .cat l s1 h2, h3, h4⟩
 | .alt l, b, P, Q, h0, hM, hQ => by
  simp only [layX] at hQ hM ⊢
  have hat : (P ++ [none_])[P.length]? = some ⟨.empty, 0, []⟩ := by simp [none_]
  have hl := (layAlt_keep l P.length b (P ++ [none_])).1
  simp only [List.length_append, List.length_singleton] at hl
  have hne : P.length ≠ z := h0 _ (Nat.le_refl _) (by omega)
  obtain ⟨fs, h1, h2, h3⟩ := layAlt_langZ z M l P.length b (P ++ [none_]) Q [] (h0.up (by simp)) hM (by simp) hat (fun k h1 h2 => hQ k (by simp at h1; omega) h2)
  have hp : Q[P.length]? = some ⟨.empty, 0, fs⟩ := by
   rw [hQ P.length (Nat.le_refl _) (by omega)]; exact h1
  constructor
  ·intro k s h
   obtain ⟨k', rfl, hh | hh⟩ := runZ_at hp hne h
   ·obtain ⟨q, hq, hr⟩ := hh
    obtain ⟨r, hr1, hL⟩ := h2 q hq
    obtain ⟨s1, s2, k2, rfl, hm, hk, hr2⟩ := hL.1 _ _ hr
    exact ⟨s1, s2, k2, rfl, .alt l r s1 hr1 hm, by omega, hr2⟩
   ·obtain ⟨c, s', _, hx, _⟩ := hh; cases hx
  ·intro s1 s2 hm hb
   obtain ⟨r, hr, hm2⟩ := mt_alt_inv hm
   obtain ⟨f, hf, hL⟩ := h3 r hr
   obtain ⟨k, hk⟩ := hL.2 s1 s2 hm2 hb
   exact ⟨k + 1, .eps _ f k _ _ hp hf hk⟩
 | .star r, b, P, Q, h0, hM, hQ => by
  simp only [layX] at hQ hM ⊢
  rw [setAlso_len] at hM
  have hk := lay_keep r P.length (P ++ [none_])
  have hat : (layX r P.length (P ++ [none_])).2[P.length]? = some ⟨.empty, 0, []⟩ := by
   rw [hk.2 _ (by simp)]; simp [none_]
  have hl := hk.1
  simp only [List.length_append, List.length_singleton] at hl
  have hne : P.length ≠ z := h0 _ (Nat.le_refl _) (by omega)
  have hp : Q[P.length]? = some ⟨.empty, 0, [b, (layX r P.length (P ++ [none_])).1]⟩ := by
   rw [hQ P.length (Nat.le_refl _) (by rw [setAlso_len]; omega), setAlso_at _ hat]
  refine star_runZ hne hp (lay_langZ z M r P.length (P ++ [none_]) Q (h0.up (by simp)) hM (fun k h1 h2 => ?_))
  simp at h1
  rw [hQ k (by omega) (by rw [setAlso_len]; exact h2), setAlso_ne _ (by omega)]
theorem layCat_langZ (z M : Nat) : ∀ (l : List RX) (b : Nat) (P Q : List Pl), Off z P.length M → (layCat l b P).2.length ≤ M → Agree Q (layCat l b P).2 P.length → LangZL z Q (layCat l b P).1 l b
 | [], b, P, Q, h0, hM, hQ => ⟨fun k s h => ⟨[], s, k, rfl, .nil, Nat.le_refl _, h⟩, fun s1 s2 h hb => by rw [mtL_nil_inv h]; exact hb⟩
 | r :: l, b, P, Q, h0, hM, hQ => by
  simp only [layCat] at hQ hM ⊢
  have k1 := layCat_keep l b P
  have k2 := lay_keep r (layCat l b P).1 (layCat l b P).2
  have h1 := layCat_langZ z M l b P Q h0 (by omega) (fun k h1 h2 => (hQ k h1 (by omega)).trans (k2.2 k h2))
  have h2 := lay_langZ z M r (layCat l b P).1 (layCat l b P).2 Q (h0.up k1.1) hM (fun k h1 h2 => hQ k (by omega) h2)
  constructor
  ·intro k s h
   obtain ⟨s1, s2, k', rfl, hm, hk, hr⟩ := h2.1 k s h
   obtain ⟨s3, s4, k3, rfl, hm2, hk2, hr2⟩ := h1.1 _ _ hr
   exact ⟨s1 ++ s3, s4, k3, by simp, .cons r l s1 s3 hm hm2, by omega, hr2⟩
  ·intro s1 s2 hm hb
   obtain ⟨s3, s4, rfl, h3, h4⟩ := mtL_cons_inv hm
   obtain ⟨k, hk⟩ := h2.2 s3 (s4 ++ s2) h3 (h1.2 s4 s2 h4 hb)
   exact ⟨k, by simpa using hk⟩
theorem layAlt_langZ (z M : Nat) : ∀ (l : List RX) (a b : Nat) (P Q : List Pl) (A : List Nat), Off z P.length M → (layAlt l a b P).length ≤ M → a < P.length → P[a]? = some ⟨.empty, 0, A⟩ → Agree Q (layAlt l a b P) P.length →
  ∃ fs, (layAlt l a b P)[a]? = some ⟨.empty, 0, A ++ fs⟩ ∧ (∀ f ∈ fs, ∃ r ∈ l, LangZ z Q f r b) ∧ (∀ r ∈ l, ∃ f ∈ fs, LangZ z Q f r b)
 | [], a, b, P, Q, A, h0, hM, ha, hA, hQ => ⟨[], by rw [List.append_nil]; exact hA, by simp, by simp⟩
 | r :: l, a, b, P, Q, A, h0, hM, ha, hA, hQ => by
  simp only [layAlt] at hQ hM ⊢
  have k1 := lay_keep r b P
  have k2 := layAlt_keep l a b (addAlso (layX r b P).2 a (layX r b P).1)
  rw [addAlso_len] at k2
  have hL := lay_langZ z M r b P Q h0 (by omega) (fun k h1 h2 => by rw [hQ k h1 (by omega), k2.2 k h2 (by omega), addAlso_ne _ (by omega)])
  have hA2 : (addAlso (layX r b P).2 a (layX r b P).1)[a]? = some ⟨.empty, 0, A ++ [(layX r b P).1]⟩ := by
   rw [addAlso_at _ (pl := ⟨.empty, 0, A⟩) (by rw [k1.2 a ha]; exact hA)]
  obtain ⟨fs, h1, h2, h3⟩ := layAlt_langZ z M l a b (addAlso (layX r b P).2 a (layX r b P).1) Q (A ++ [(layX r b P).1]) (by rw [addAlso_len]; exact h0.up k1.1) hM (by rw [addAlso_len]; omega) hA2 (fun k h1 h2 => hQ k (by rw [addAlso_len] at h1; omega) h2)
  refine ⟨(layX r b P).1 :: fs, by rw [h1]; simp, ?_, ?_⟩
  ·intro f hf
   simp at hf
   rcases hf with rfl | hf
   ·exact ⟨r, by simp, hL⟩
   ·obtain ⟨r', h4, h5⟩ := h2 f hf
    exact ⟨r', by simp [h4], h5⟩
  ·intro r' hr'
   simp at hr'
   rcases hr' with rfl | hr'
   ·exact ⟨_, by simp, hL⟩
   ·obtain ⟨f, h4, h5⟩ := h3 r' hr'
    exact ⟨f, by simp [h4], h5⟩
end
theorem reach_of_runZ {z : Nat} {P : List Pl} {f k p : Nat} {s : List UInt8} (h : RunZ z P k p s) : ∀ s0, X3.Reach P f s0 p → X3.Reach P f (s0 ++ s) z := by
 induction h with
 | stop => intro s0 h; rw [List.append_nil]; exact h
 | eps p q k s pl h hq hr ih => intro s0 h0; exact ih s0 (h0.eps (.step p q q pl h hq (.refl q)))
 | byte p k x s pl h hx hr ih =>
  intro s0 h0
  have := ih (s0 ++ [x]) (.step s0 x p pl.next pl h0 h hx (.refl _))
  simpa using this
theorem runZ_eps {z : Nat} {P : List Pl} {p q : Nat} (h : Eps P p q) {s : List UInt8} (hr : ∃ k, RunZ z P k q s) : ∃ k, RunZ z P k p s := by
 induction h with
 | refl => exact hr
 | step p q r pl h hq _ ih => obtain ⟨k, hk⟩ := ih hr; exact ⟨k + 1, .eps p q k s pl h hq hk⟩
theorem runZ_of_reach {z : Nat} {P : List Pl} {f : Nat} {s : List UInt8} {p : Nat} (h : X3.Reach P f s p) : ∀ t, (∃ k, RunZ z P k p t) → ∃ k, RunZ z P k f (s ++ t) := by
 induction h with
 | start q h => intro t ht; exact runZ_eps h ht
 | step s x p q pl hp h hx hq ih =>
  intro t ht
  obtain ⟨k, hk⟩ := runZ_eps hq ht
  have := ih (x :: t) ⟨k + 1, .byte p k x t pl h hx hk⟩
  simpa using this
theorem reach_runZ {z : Nat} {P : List Pl} {f : Nat} {s : List UInt8} : X3.Reach P f s z ↔ ∃ k, RunZ z P k f s := by
 constructor
 ·intro h
  have := runZ_of_reach h [] ⟨0, .stop⟩
  rwa [List.append_nil] at this
 ·rintro ⟨k, hk⟩
  exact reach_of_runZ hk [] (.start _ (.refl _))
end Go.Proofs.X4
namespace Go.Proofs.X4
open Go Go.Proofs.X3
def mk : List RX → Nat → List Pl → List Nat → List Nat × List Pl × List Nat
 | [], _, P, TS => ([], P, TS)
 | r :: l, i, P, TS =>
  ((layX r P.length (P ++ [none_])).1 :: (mk l (i + 1) (layX r P.length (P ++ [none_])).2 (TS ++ 2 ^ i :: List.replicate ((layX r P.length (P ++ [none_])).2.length - (P.length + 1)) 0)).1,
   (mk l (i + 1) (layX r P.length (P ++ [none_])).2 (TS ++ 2 ^ i :: List.replicate ((layX r P.length (P ++ [none_])).2.length - (P.length + 1)) 0)).2)
def ends : List RX → List Pl → List Nat
 | [], _ => []
 | r :: l, P => P.length :: ends l (layX r P.length (P ++ [none_])).2
theorem seg_len (r : RX) (P : List Pl) : P.length + 1 ≤ (layX r P.length (P ++ [none_])).2.length := by
 have := (lay_keep r P.length (P ++ [none_])).1
 simpa using this
theorem mk_keep : ∀ (l : List RX) (i : Nat) (P : List Pl) (TS : List Nat), P.length ≤ (mk l i P TS).2.1.length ∧ ∀ k, k < P.length → (mk l i P TS).2.1[k]? = P[k]?
 | [], i, P, TS => ⟨Nat.le_refl _, fun _ _ => rfl⟩
 | r :: l, i, P, TS => by
  have h1 := lay_keep r P.length (P ++ [none_])
  have h2 := mk_keep l (i + 1) (layX r P.length (P ++ [none_])).2 (TS ++ 2 ^ i :: List.replicate ((layX r P.length (P ++ [none_])).2.length - (P.length + 1)) 0)
  have h3 := seg_len r P
  simp only [mk]
  refine ⟨by omega, fun k hk => ?_⟩
  rw [h2.2 k (by omega), h1.2 k (by simp; omega), List.getElem?_append_left hk]
theorem ends_ge : ∀ (l : List RX) (P : List Pl) (e : Nat), e ∈ ends l P → P.length ≤ e
 | [], P, e, h => by cases h
 | r :: l, P, e, h => by
  simp only [ends, List.mem_cons] at h
  rcases h with rfl | h
  ·exact Nat.le_refl _
  ·have := ends_ge l _ e h
   have := seg_len r P
   omega
theorem ends_inj : ∀ (l : List RX) (P : List Pl) (i j e : Nat), (ends l P)[i]? = some e → (ends l P)[j]? = some e → i = j
 | [], P, i, j, e, h, _ => by simp [ends] at h
 | r :: l, P, i, j, e, h, k => by
  have hs := seg_len r P
  simp only [ends] at h k
  cases i with
  | zero =>
   cases j with
   | zero => rfl
   | succ j =>
    simp only [List.getElem?_cons_zero, List.getElem?_cons_succ, Option.some.injEq] at h k
    have := ends_ge l _ e (List.mem_iff_getElem?.2 ⟨j, k⟩)
    omega
  | succ i =>
   cases j with
   | zero =>
    simp only [List.getElem?_cons_zero, List.getElem?_cons_succ, Option.some.injEq] at h k
    have := ends_ge l _ e (List.mem_iff_getElem?.2 ⟨i, h⟩)
    omega
   | succ j =>
    simp only [List.getElem?_cons_succ] at h k
    rw [ends_inj l _ i j e h k]
theorem segs : ∀ (l : List RX) (i : Nat) (P : List Pl) (TS : List Nat) (j : Nat) (r : RX), l[j]? = some r →
  ∃ Pj : List Pl, (mk l i P TS).1[j]? = some (layX r Pj.length (Pj ++ [none_])).1 ∧ (ends l P)[j]? = some Pj.length ∧ P.length ≤ Pj.length ∧
   (layX r Pj.length (Pj ++ [none_])).2.length ≤ (mk l i P TS).2.1.length ∧ (∀ k, k < (layX r Pj.length (Pj ++ [none_])).2.length → (mk l i P TS).2.1[k]? = (layX r Pj.length (Pj ++ [none_])).2[k]?) ∧
   ∀ e, e ∈ ends l P → Off e (Pj.length + 1) (layX r Pj.length (Pj ++ [none_])).2.length
 | [], i, P, TS, j, r, h => by simp at h
 | r0 :: l, i, P, TS, j, r, h => by
  have hk := mk_keep l (i + 1) (layX r0 P.length (P ++ [none_])).2 (TS ++ 2 ^ i :: List.replicate ((layX r0 P.length (P ++ [none_])).2.length - (P.length + 1)) 0)
  have hs := seg_len r0 P
  cases j with
  | zero =>
   simp only [List.getElem?_cons_zero, Option.some.injEq] at h
   subst h
   refine ⟨P, rfl, rfl, Nat.le_refl _, hk.1, hk.2, fun e he k h1 h2 => ?_⟩
   simp only [ends, List.mem_cons] at he
   rcases he with rfl | he
   ·omega
   ·have := ends_ge l _ e he; omega
  | succ j =>
   simp only [List.getElem?_cons_succ] at h
   obtain ⟨Pj, h1, h2, h3, h4, h5, h6⟩ := segs l (i + 1) (layX r0 P.length (P ++ [none_])).2 (TS ++ 2 ^ i :: List.replicate ((layX r0 P.length (P ++ [none_])).2.length - (P.length + 1)) 0) j r h
   refine ⟨Pj, by simp only [mk, List.getElem?_cons_succ]; exact h1, by simp only [ends, List.getElem?_cons_succ]; exact h2, by omega, h4, h5, fun e he k g1 g2 => ?_⟩
   simp only [ends, List.mem_cons] at he
   rcases he with rfl | he
   ·omega
   ·exact h6 e he k g1 g2
theorem mk_firsts : ∀ (l : List RX) (i : Nat) (P : List Pl) (TS : List Nat), (mk l i P TS).1.length = l.length
 | [], _, _, _ => rfl
 | r :: l, i, P, TS => by simp only [mk, List.length_cons]; rw [mk_firsts l]
theorem ends_len : ∀ (l : List RX) (P : List Pl), (ends l P).length = l.length
 | [], _ => rfl
 | r :: l, P => by simp only [ends, List.length_cons]; rw [ends_len l]
theorem reach_end {l : List RX} {i : Nat} {P : List Pl} {TS : List Nat} {j : Nat} {r : RX} {f e : Nat} {s : List UInt8} (hr : l[j]? = some r) (hf : (mk l i P TS).1[j]? = some f) (he : e ∈ ends l P) :
  X3.Reach (mk l i P TS).2.1 f s e ↔ (ends l P)[j]? = some e ∧ Mt r s := by
 obtain ⟨Pj, h1, h2, h3, h4, h5, h6⟩ := segs l i P TS j r hr
 rw [h1] at hf
 obtain rfl := Option.some.inj hf
 have hL := lay_langZ e _ r Pj.length (Pj ++ [none_]) (mk l i P TS).2.1 (by have := h6 e he; simpa using this) (Nat.le_refl _) (fun k _ hk => h5 k hk)
 have hz : (mk l i P TS).2.1[Pj.length]? = some none_ := by
  rw [h5 _ (by have := seg_len r Pj; omega), (lay_keep r Pj.length (Pj ++ [none_])).2 _ (by simp)]
  simp
 rw [reach_runZ]
 constructor
 ·rintro ⟨k, hk⟩
  obtain ⟨s1, s2, k', rfl, hm, _, hr2⟩ := hL.1 k s hk
  by_cases c : Pj.length = e
  ·subst c
   refine ⟨h2, ?_⟩
   have : s2 = [] := by
    cases hr2 with
    | stop => rfl
    | eps _ q k s pl h hq hr => rw [hz] at h; obtain rfl := Option.some.inj h; cases hq
    | byte _ k x s pl h hx hr => rw [hz] at h; obtain rfl := Option.some.inj h; cases hx
   rw [this, List.append_nil]; exact hm
  ·obtain ⟨k2, _, hh | hh⟩ := runZ_at hz c hr2
   ·obtain ⟨q, hq, _⟩ := hh; cases hq
   ·obtain ⟨x, s', _, hx, _⟩ := hh; cases hx
 ·rintro ⟨hE, hm⟩
  rw [h2] at hE
  obtain rfl := Option.some.inj hE
  obtain ⟨k, hk⟩ := hL.2 s [] hm ⟨0, .stop⟩
  exact ⟨k, by rw [List.append_nil] at hk; exact hk⟩
theorem mk_tags : ∀ (l : List RX) (i : Nat) (P : List Pl) (TS : List Nat), TS.length = P.length →
  (mk l i P TS).2.2.length = (mk l i P TS).2.1.length ∧ (∀ k, k < P.length → (mk l i P TS).2.2[k]? = TS[k]?) ∧
  (∀ j e, (ends l P)[j]? = some e → (mk l i P TS).2.2[e]? = some (2 ^ (i + j))) ∧
  (∀ k t, P.length ≤ k → (mk l i P TS).2.2[k]? = some t → t = 0 ∨ ∃ j, (ends l P)[j]? = some k ∧ t = 2 ^ (i + j))
 | [], i, P, TS, h => ⟨h, fun _ _ => rfl, fun j e he => by simp [ends] at he, fun k t hk ht => by
   simp only [mk] at ht
   have := (List.getElem?_eq_some_iff.1 ht).1
   omega⟩
 | r :: l, i, P, TS, h => by
  have hs := seg_len r P
  have hlen : (TS ++ 2 ^ i :: List.replicate ((layX r P.length (P ++ [none_])).2.length - (P.length + 1)) 0).length = (layX r P.length (P ++ [none_])).2.length := by simp; omega
  obtain ⟨h1, h2, h3, h4⟩ := mk_tags l (i + 1) (layX r P.length (P ++ [none_])).2 _ hlen
  simp only [mk]
  refine ⟨h1, fun k hk => ?_, fun j e he => ?_, fun k t hk ht => ?_⟩
  ·rw [h2 k (by omega), List.getElem?_append_left (by omega)]
  ·cases j with
   | zero =>
    simp only [ends, List.getElem?_cons_zero, Option.some.injEq] at he
    subst he
    rw [h2 _ (by omega), List.getElem?_append_right (by omega), h, Nat.sub_self]
    rfl
   | succ j =>
    simp only [ends, List.getElem?_cons_succ] at he
    rw [h3 j e he, Nat.add_right_comm i 1 j, Nat.add_assoc i j 1]
  ·by_cases c : k < (layX r P.length (P ++ [none_])).2.length
   ·rw [h2 k c, List.getElem?_append_right (by omega), h] at ht
    cases d : k - P.length with
    | zero =>
     rw [d] at ht
     simp only [List.getElem?_cons_zero, Option.some.injEq] at ht
     refine .inr ⟨0, ?_, ht.symm⟩
     simp only [ends, List.getElem?_cons_zero, Option.some.injEq]
     omega
    | succ d' =>
     rw [d] at ht
     simp only [List.getElem?_cons_succ] at ht
     refine .inl ?_
     rw [List.getElem?_replicate] at ht
     split at ht
     ·exact (Option.some.inj ht).symm
     ·cases ht
   ·rcases h4 k t (by omega) ht with h5 | ⟨j, h5, h6⟩
    ·exact .inl h5
    ·refine .inr ⟨j + 1, ?_, by rw [h6, Nat.add_right_comm i 1 j, Nat.add_assoc i j 1]⟩
     simp only [ends, List.getElem?_cons_succ]; exact h5
theorem mk_sound : ∀ (l : List RX) (i : Nat) (P : List Pl) (TS : List Nat), Bd P P.length → Bd (mk l i P TS).2.1 (mk l i P TS).2.1.length ∧ (∀ f ∈ (mk l i P TS).1, f < (mk l i P TS).2.1.length) ∧
  (mk l i P TS).2.1.length ≤ P.length + l.length + sizeL l ∧ muL (mk l i P TS).2.1 ≤ muL P + l.length + 4 * sizeL l
 | [], i, P, TS, h => ⟨h, fun f hf => (by simp [mk] at hf), by simp [mk, sizeL], by simp [mk, sizeL]⟩
 | r :: l, i, P, TS, h => by
  have hb : Bd (P ++ [none_]) (P ++ [none_]).length := (h.mono (by simp)).app (by simp [none_]) (by simp [none_])
  have h1 := lay_sound r P.length (P ++ [none_]) hb (by simp)
  have h2 := mk_sound l (i + 1) (layX r P.length (P ++ [none_])).2 (TS ++ 2 ^ i :: List.replicate ((layX r P.length (P ++ [none_])).2.length - (P.length + 1)) 0) h1.bd
  have hk := mk_keep l (i + 1) (layX r P.length (P ++ [none_])).2 (TS ++ 2 ^ i :: List.replicate ((layX r P.length (P ++ [none_])).2.length - (P.length + 1)) 0)
  have hl := h1.len
  have hm := h1.mu
  rw [muL_app] at hm
  simp only [List.length_append, List.length_singleton] at hl
  simp only [mk, List.length_cons, sizeL]
  refine ⟨h2.1, fun f hf => ?_, by omega, ?_⟩
  ·simp only [List.mem_cons] at hf
   rcases hf with rfl | hf
   ·exact Nat.lt_of_lt_of_le h1.lt hk.1
   ·exact h2.2.1 f hf
  ·have h0 : none_.also.length = 0 := rfl
   rw [h0] at hm
   have := Go.Proofs.YtochckefnjobhaaGreatDoor.size_pos r
   omega
end Go.Proofs.X4
namespace Go.Proofs.X4
open Go Go.Proofs.X3
def isB : RX → Bool
 | .bytes _ _ _ _ => true
 | _ => false
def imp (P : List Pl) (TS : List Nat) (q : Nat) : Prop := (∃ pl, P[q]? = some pl ∧ isB pl.b = true) ∨ ∃ t, TS[q]? = some t ∧ t ≠ 0
structure Closed (P : List Pl) (TS : List Nat) (S : Nat → Prop) (A : List Nat) : Prop where
 up : A.Pairwise (· < ·)
 is : ∀ q, q ∈ A ↔ (∃ p, S p ∧ Eps P p q) ∧ imp P TS q
theorem sorted_ext {A B : List Nat} (ha : A.Pairwise (· < ·)) (hb : B.Pairwise (· < ·)) (h : ∀ q, q ∈ A ↔ q ∈ B) : A = B := by
 induction A generalizing B with
 | nil =>
  cases B with
  | nil => rfl
  | cons b B => exact absurd ((h b).2 (List.mem_cons_self ..)) (by simp)
 | cons a A ih =>
  cases B with
  | nil => exact absurd ((h a).1 (List.mem_cons_self ..)) (by simp)
  | cons b B =>
   rw [List.pairwise_cons] at ha hb
   have e : a = b := by
    have h1 := (h a).1 (List.mem_cons_self ..)
    have h2 := (h b).2 (List.mem_cons_self ..)
    rw [List.mem_cons] at h1 h2
    rcases h1 with h1 | h1
    ·exact h1
    ·rcases h2 with h2 | h2
     ·exact h2.symm
     ·have := hb.1 a h1; have := ha.1 b h2; omega
   subst e
   rw [ih ha.2 hb.2 fun q => ?_]
   constructor
   ·intro hq
    rcases List.mem_cons.1 ((h q).1 (List.mem_cons_of_mem _ hq)) with rfl | h1
    ·have := ha.1 q hq; omega
    ·exact h1
   ·intro hq
    rcases List.mem_cons.1 ((h q).2 (List.mem_cons_of_mem _ hq)) with rfl | h1
    ·have := hb.1 q hq; omega
    ·exact h1
theorem Closed.ext {P : List Pl} {TS : List Nat} {S S' : Nat → Prop} {A B : List Nat} (h : Closed P TS S A) (k : Closed P TS S' B) (hS : ∀ p, S p ↔ S' p) : A = B :=
 sorted_ext h.up k.up fun q => by rw [h.is, k.is]; simp only [hS]
def tagsX (TS : List Nat) (A : List Nat) : Nat := A.foldl (fun n q => n ||| TS.getD q 0) 0
theorem tags_fold (TS : List Nat) (A : List Nat) : ∀ (n i : Nat), (A.foldl (fun n q => n ||| TS.getD q 0) n).testBit i = (n.testBit i || A.any fun q => (TS.getD q 0).testBit i) := by
 induction A with
 | nil => intro n i; simp
 | cons a A ih => intro n i; rw [List.foldl_cons, ih, Nat.testBit_or, List.any_cons, Bool.or_assoc]
theorem tags_test (TS : List Nat) (A : List Nat) (i : Nat) : (tagsX TS A).testBit i = A.any fun q => (TS.getD q 0).testBit i := by
 unfold tagsX; rw [tags_fold, Nat.zero_testBit, Bool.false_or]
def At (P : List Pl) (TS fs : List Nat) (s : List UInt8) (A : List Nat) : Prop := A.Pairwise (· < ·) ∧ ∀ q, q ∈ A ↔ (∃ f, f ∈ fs ∧ X3.Reach P f s q) ∧ imp P TS q
theorem At.start {P : List Pl} {TS fs A : List Nat} (h : Closed P TS (fun p => p ∈ fs) A) : At P TS fs [] A := by
 refine ⟨h.up, fun q => (h.is q).trans ?_⟩
 constructor
 ·rintro ⟨⟨f, hf, he⟩, hi⟩; exact ⟨⟨f, hf, .start q he⟩, hi⟩
 ·rintro ⟨⟨f, hf, he⟩, hi⟩
  refine ⟨⟨f, hf, ?_⟩, hi⟩
  generalize hs : ([] : List UInt8) = s at he
  cases he with
  | start _ h => exact h
  | step s x p _ pl hp h1 hx hq => simp at hs
theorem has_isB {b : RX} {x : Nat} (h : hasX b x = true) : isB b = true := by
 cases b <;> first | rfl | (simp [hasX] at h)
theorem reach_snoc {P : List Pl} {f : Nat} {s : List UInt8} {x : UInt8} {q : Nat} : X3.Reach P f (s ++ [x]) q ↔ ∃ p pl, X3.Reach P f s p ∧ P[p]? = some pl ∧ hasX pl.b x.toNat = true ∧ Eps P pl.next q := by
 constructor
 ·intro h
  generalize hs : s ++ [x] = t at h
  cases h with
  | start _ h => simp at hs
  | step s' x' p _ pl hp h1 hx hq =>
   obtain ⟨rfl, e⟩ := List.append_inj' hs rfl
   obtain rfl : x = x' := by simpa using e
   exact ⟨p, pl, hp, h1, hx, hq⟩
 ·rintro ⟨p, pl, hp, h1, hx, hq⟩
  exact .step s x p q pl hp h1 hx hq
theorem At.step {P : List Pl} {TS fs A B : List Nat} {s : List UInt8} {x : UInt8} (h : At P TS fs s A) (k : Closed P TS (fun n => ∃ p pl, p ∈ A ∧ P[p]? = some pl ∧ hasX pl.b x.toNat = true ∧ pl.next = n) B) : At P TS fs (s ++ [x]) B := by
 refine ⟨k.up, fun q => (k.is q).trans ?_⟩
 constructor
 ·rintro ⟨⟨n, ⟨p, pl, hp, h1, hx, rfl⟩, he⟩, hi⟩
  obtain ⟨⟨f, hf, hr⟩, _⟩ := (h.2 p).1 hp
  exact ⟨⟨f, hf, .step s x p q pl hr h1 hx he⟩, hi⟩
 ·rintro ⟨⟨f, hf, hr⟩, hi⟩
  obtain ⟨p, pl, hp, h1, hx, he⟩ := reach_snoc.1 hr
  exact ⟨⟨pl.next, ⟨p, pl, (h.2 p).2 ⟨⟨f, hf, hp⟩, .inl ⟨pl, h1, has_isB hx⟩⟩, h1, hx, rfl⟩, he⟩, hi⟩
theorem At.ext {P : List Pl} {TS fs A B : List Nat} {s : List UInt8} (h : At P TS fs s A) (k : At P TS fs s B) : A = B := sorted_ext h.1 k.1 fun q => by rw [h.2, k.2]
theorem run_tags {l : List RX} {A : List Nat} {s : List UInt8} (h : At (mk l 0 [] []).2.1 (mk l 0 [] []).2.2 (mk l 0 [] []).1 s A) (i : Nat) :
  (tagsX (mk l 0 [] []).2.2 A).testBit i = true ↔ ∃ r, l[i]? = some r ∧ Mt r s := by
 obtain ⟨t1, _, t3, t4⟩ := mk_tags l 0 [] [] rfl
 have hlen := ends_len l []
 rw [tags_test, List.any_eq_true]
 constructor
 ·rintro ⟨q, hq, hb⟩
  obtain ⟨⟨f, hf, hr⟩, _⟩ := (h.2 q).1 hq
  rw [List.getD_eq_getElem?_getD] at hb
  cases e : (mk l 0 [] []).2.2[q]? with
  | none => rw [e] at hb; simp at hb
  | some t =>
   rw [e] at hb
   rcases t4 q t (Nat.zero_le _) e with rfl | ⟨j, hj, rfl⟩
   ·simp at hb
   ·simp only [Nat.zero_add, Option.getD_some, Nat.testBit_two_pow, decide_eq_true_eq] at hb
    subst hb
    obtain ⟨k, hk⟩ := List.mem_iff_getElem?.1 hf
    have hkl : k < l.length := by rw [← mk_firsts l 0 [] []]; exact (List.getElem?_eq_some_iff.1 hk).1
    have hr' := (reach_end (List.getElem?_eq_getElem hkl) hk (List.mem_iff_getElem?.2 ⟨j, hj⟩)).1 hr
    have hkj : k = j := by
     have h1 := (List.getElem?_eq_some_iff.1 hr'.1)
     have h2 := (List.getElem?_eq_some_iff.1 hj)
     obtain ⟨Pk, _, g2, _, _, _, g6⟩ := segs l 0 [] [] k _ (List.getElem?_eq_getElem hkl)
     exact ends_inj l [] k j q hr'.1 hj
    subst hkj
    exact ⟨_, List.getElem?_eq_getElem hkl, hr'.2⟩
 ·rintro ⟨r, hr, hm⟩
  have hil : i < l.length := (List.getElem?_eq_some_iff.1 hr).1
  obtain ⟨e, he⟩ : ∃ e, (ends l [])[i]? = some e := ⟨_, List.getElem?_eq_getElem (by rw [hlen]; exact hil)⟩
  obtain ⟨f, hf⟩ : ∃ f, (mk l 0 [] []).1[i]? = some f := ⟨_, List.getElem?_eq_getElem (by rw [mk_firsts]; exact hil)⟩
  have ht := t3 i e he
  rw [Nat.zero_add] at ht
  refine ⟨e, (h.2 e).2 ⟨⟨f, List.mem_iff_getElem?.2 ⟨i, hf⟩, (reach_end hr hf (List.mem_iff_getElem?.2 ⟨i, he⟩)).2 ⟨he, hm⟩⟩, .inr ⟨_, ht, ?_⟩⟩, ?_⟩
  ·exact Nat.ne_of_gt (Nat.two_pow_pos i)
  ·rw [List.getD_eq_getElem?_getD, ht]
   simp
end Go.Proofs.X4
set_option linter.unusedVariables false
namespace Go.Proofs.X4
open X3
def wt : List Pl → List Bool → Nat
 | pl :: P, false :: S => 1 + pl.also.length + wt P S
 | _ :: P, true :: S => wt P S
 | _, _ => 0
theorem wt_le (P : List Pl) (S : List Bool) : wt P S ≤ muL P := by
 induction P generalizing S with
 | nil => cases S <;> simp [wt]
 | cons pl P ih =>
  cases S with
  | nil => simp [wt]
  | cons b S =>
   have := ih S
   have e : muL (pl :: P) = 1 + pl.also.length + muL P := by simp [muL]
   cases b <;> simp only [wt] <;> omega
theorem wt_set {P : List Pl} {S : List Bool} {n : Nat} {pl : Pl} (h : S[n]? = some false) (hp : P[n]? = some pl) : wt P (S.set n true) + (1 + pl.also.length) = wt P S := by
 induction P generalizing S n with
 | nil => simp at hp
 | cons q P ih =>
  cases S with
  | nil => simp at h
  | cons b S =>
   cases n with
   | zero => simp at h hp; subst h hp; simp only [List.set_cons_zero, wt]; omega
   | succ n =>
    simp at h hp
    have := ih h hp
    cases b <;> simp only [List.set_cons_succ, wt] <;> omega
structure Dfs (P : List Pl) (TS F0 F : List Nat) (Sn : List Bool) (A : List Nat) : Prop where
 len : Sn.length = P.length
 ltF : ∀ f ∈ F, f < P.length
 fromF : ∀ f ∈ F, ∃ p ∈ F0, Eps P p f
 fromS : ∀ q, Sn[q]? = some true → ∃ p ∈ F0, Eps P p q
 start : ∀ p ∈ F0, p ∈ F ∨ Sn[p]? = some true
 clos : ∀ (p : Nat) (pl : Pl), Sn[p]? = some true → P[p]? = some pl → ∀ c ∈ pl.also, c ∈ F ∨ Sn[c]? = some true
 nod : A.Nodup
 isA : ∀ q, q ∈ A ↔ Sn[q]? = some true ∧ imp P TS q
 mu : F.length + wt P Sn ≤ F0.length + muL P
theorem Dfs.begin (P : List Pl) (TS F0 : List Nat) (h : ∀ f ∈ F0, f < P.length) : Dfs P TS F0 F0 (List.replicate P.length false) [] where
 len := by simp
 ltF := h
 fromF := fun f hf => ⟨f, hf, .refl f⟩
 fromS := fun q hq => by rw [List.getElem?_replicate] at hq; split at hq <;> simp at hq
 start := fun p hp => .inl hp
 clos := fun p pl hq => by rw [List.getElem?_replicate] at hq; split at hq <;> simp at hq
 nod := List.nodup_nil
 isA := fun q => by
  constructor
  ·intro h; simp at h
  ·rintro ⟨hq, _⟩; rw [List.getElem?_replicate] at hq; split at hq <;> simp at hq
 mu := by have := wt_le P (List.replicate P.length false); omega
theorem Dfs.skip {P : List Pl} {TS F0 F : List Nat} {n : Nat} {Sn : List Bool} {A : List Nat} (h : Dfs P TS F0 (F ++ [n]) Sn A) (hn : Sn[n]? = some true) : Dfs P TS F0 F Sn A where
 len := h.len
 ltF := fun f hf => h.ltF f (by simp [hf])
 fromF := fun f hf => h.fromF f (by simp [hf])
 fromS := h.fromS
 start := fun p hp => by
  rcases h.start p hp with h1 | h1
  ·rcases List.mem_append.1 h1 with h2 | h2
   ·exact .inl h2
   ·simp at h2; subst h2; exact .inr hn
  ·exact .inr h1
 clos := fun p pl hp hpl c hc => by
  rcases h.clos p pl hp hpl c hc with h1 | h1
  ·rcases List.mem_append.1 h1 with h2 | h2
   ·exact .inl h2
   ·simp at h2; subst h2; exact .inr hn
  ·exact .inr h1
 nod := h.nod
 isA := h.isA
 mu := by have := h.mu; simp at this; omega
theorem getset {Sn : List Bool} {n q : Nat} (hn : Sn[n]? = some false) : (Sn.set n true)[q]? = some true ↔ q = n ∨ Sn[q]? = some true := by
 rw [List.getElem?_set]
 by_cases e : n = q
 ·subst e
  have hl : n < Sn.length := (List.getElem?_eq_some_iff.1 hn).1
  simp [hl]
 ·simp [e, Ne.symm e]
theorem Dfs.see {P : List Pl} {TS F0 F A A' : List Nat} {n : Nat} {Sn : List Bool} {pl : Pl} (h : Dfs P TS F0 (F ++ [n]) Sn A) (hn : Sn[n]? = some false) (hp : P[n]? = some pl) (hb : Bd P P.length)
  (hA : (imp P TS n ∧ A' = A ++ [n]) ∨ (¬ imp P TS n ∧ A' = A)) : Dfs P TS F0 (F ++ pl.also) (Sn.set n true) A' where
 len := by simp [h.len]
 ltF := fun f hf => by
  rcases List.mem_append.1 hf with h1 | h1
  ·exact h.ltF f (by simp [h1])
  ·exact (hb pl (List.mem_iff_getElem?.2 ⟨_, hp⟩)).2 f h1
 fromF := fun f hf => by
  rcases List.mem_append.1 hf with h1 | h1
  ·exact h.fromF f (by simp [h1])
  ·obtain ⟨p, hp0, he⟩ := h.fromF n (by simp)
   exact ⟨p, hp0, he.trans (.step n f f pl hp h1 (.refl f))⟩
 fromS := fun q hq => by
  rcases (getset hn).1 hq with h1 | h1
  ·subst h1; exact h.fromF _ (by simp)
  ·exact h.fromS q h1
 start := fun p hp0 => by
  rcases h.start p hp0 with h1 | h1
  ·rcases List.mem_append.1 h1 with h2 | h2
   ·exact .inl (by simp [h2])
   ·simp at h2; exact .inr ((getset hn).2 (.inl h2))
  ·exact .inr ((getset hn).2 (.inr h1))
 clos := fun p pl' hq hpl c hc => by
  rcases (getset hn).1 hq with h1 | h1
  ·subst h1; rw [hp] at hpl; injection hpl with e; subst e
   exact .inl (by simp [hc])
  ·rcases h.clos p pl' h1 hpl c hc with h2 | h2
   ·rcases List.mem_append.1 h2 with h3 | h3
    ·exact .inl (by simp [h3])
    ·simp at h3; exact .inr ((getset hn).2 (.inl h3))
   ·exact .inr ((getset hn).2 (.inr h2))
 nod := by
  rcases hA with ⟨_, rfl⟩ | ⟨_, rfl⟩
  ·have hnA : n ∉ A := fun hm => by have := ((h.isA n).1 hm).1; rw [hn] at this; simp at this
   rw [List.nodup_append]
   exact ⟨h.nod, by simp, by rintro a ha b hb rfl; simp at hb; subst hb; exact hnA ha⟩
  ·exact h.nod
 isA := fun q => by
  rw [getset hn]
  rcases hA with ⟨hi, rfl⟩ | ⟨hi, rfl⟩
  ·rw [List.mem_append, h.isA]
   simp only [List.mem_singleton]
   constructor
   ·rintro (⟨h1, h2⟩ | rfl)
    ·exact ⟨.inr h1, h2⟩
    ·exact ⟨.inl rfl, hi⟩
   ·rintro ⟨rfl | h1, h2⟩
    ·exact .inr rfl
    ·exact .inl ⟨h1, h2⟩
  ·rw [h.isA]
   constructor
   ·rintro ⟨h1, h2⟩; exact ⟨.inr h1, h2⟩
   ·rintro ⟨rfl | h1, h2⟩
    ·exact absurd h2 hi
    ·exact ⟨h1, h2⟩
 mu := by have := h.mu; have := wt_set hn hp; simp at *; omega
theorem Dfs.done {P : List Pl} {TS F0 A B : List Nat} {Sn : List Bool} (h : Dfs P TS F0 [] Sn A) (hB : B.Perm A) (hs : B.Pairwise (· ≤ ·)) : Closed P TS (fun p => p ∈ F0) B where
 up := by
  have hn : B.Nodup := hB.nodup_iff.2 h.nod
  exact (hs.and hn).imp (fun {a b} ⟨h1, h2⟩ => by omega)
 is := fun q => by
  rw [hB.mem_iff, h.isA]
  have key : ∀ p q, Eps P p q → Sn[p]? = some true → Sn[q]? = some true := by
   intro p q he
   induction he with
   | refl => exact id
   | step p q r pl hp hq hr ih =>
    intro hs
    rcases h.clos p pl hs hp q hq with h1 | h1
    ·simp at h1
    ·exact ih h1
  constructor
  ·rintro ⟨h1, h2⟩; exact ⟨h.fromS q h1, h2⟩
  ·rintro ⟨⟨p, hp, he⟩, h2⟩
   refine ⟨key p q he ?_, h2⟩
   rcases h.start p hp with h1 | h1
   ·simp at h1
   ·exact h1
theorem Dfs.alen {P : List Pl} {TS F0 F A : List Nat} {Sn : List Bool} (h : Dfs P TS F0 F Sn A) : A.length ≤ P.length := by
 have hsub : A ⊆ List.range P.length := fun q hq => by
  have h1 := ((h.isA q).1 hq).1
  have := (List.getElem?_eq_some_iff.1 h1).1
  rw [h.len] at this
  exact List.mem_range.2 this
 have := h.nod.length_le_of_subset hsub
 simpa using this
end Go.Proofs.X4
