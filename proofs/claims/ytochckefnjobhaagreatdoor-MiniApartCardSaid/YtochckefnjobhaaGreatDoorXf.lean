/- Plain mathematics: a regex as places, from one to the next, and what they take. -/
import Derived.Test.YtochckefnjobhaaGreatDoorSa
namespace Go.Proofs.X3
set_option linter.unusedVariables false
structure Pl where
 b : RX
 next : Nat
 also : List Nat
def addAlso (P : List Pl) (at_ f : Nat) : List Pl := P.modify at_ fun pl => { pl with also := pl.also ++ [f] }
def setAlso (P : List Pl) (at_ : Nat) (l : List Nat) : List Pl := P.modify at_ fun pl => { pl with also := l }
def none_ : Pl := ⟨.empty, 0, []⟩
mutual
def layX : RX → Nat → List Pl → Nat × List Pl
 | .empty, b, P => (b, P)
 | .bytes x y z u, b, P => (P.length, P ++ [⟨.bytes x y z u, b, []⟩])
 | .cat l, b, P => layCat l b P
 | .alt l, b, P => (P.length, layAlt l P.length b (P ++ [none_]))
 | .star r, b, P => (P.length, setAlso (layX r P.length (P ++ [none_])).2 P.length [b, (layX r P.length (P ++ [none_])).1])
def layCat : List RX → Nat → List Pl → Nat × List Pl
 | [], b, P => (b, P)
 | r :: l, b, P => layX r (layCat l b P).1 (layCat l b P).2
def layAlt : List RX → Nat → Nat → List Pl → List Pl
 | [], _, _, P => P
 | r :: l, a, b, P => layAlt l a b (addAlso (layX r b P).2 a (layX r b P).1)
end
theorem addAlso_len (P : List Pl) (a f : Nat) : (addAlso P a f).length = P.length := by simp [addAlso]
theorem setAlso_len (P : List Pl) (a : Nat) (l : List Nat) : (setAlso P a l).length = P.length := by simp [setAlso]
theorem addAlso_ne (P : List Pl) {a f k : Nat} (h : k ≠ a) : (addAlso P a f)[k]? = P[k]? := by
 unfold addAlso; rw [List.getElem?_modify]; simp only [if_neg (Ne.symm h)]; cases P[k]? <;> rfl
theorem setAlso_ne (P : List Pl) {a k : Nat} {l : List Nat} (h : k ≠ a) : (setAlso P a l)[k]? = P[k]? := by
 unfold setAlso; rw [List.getElem?_modify]; simp only [if_neg (Ne.symm h)]; cases P[k]? <;> rfl
theorem addAlso_at (P : List Pl) {a f : Nat} {pl : Pl} (h : P[a]? = some pl) : (addAlso P a f)[a]? = some { pl with also := pl.also ++ [f] } := by
 unfold addAlso; rw [List.getElem?_modify, h]; simp
theorem setAlso_at (P : List Pl) {a : Nat} {l : List Nat} {pl : Pl} (h : P[a]? = some pl) : (setAlso P a l)[a]? = some { pl with also := l } := by
 unfold setAlso; rw [List.getElem?_modify, h]; simp
mutual
theorem lay_keep : ∀ (r : RX) (b : Nat) (P : List Pl), P.length ≤ (layX r b P).2.length ∧ ∀ k, k < P.length → (layX r b P).2[k]? = P[k]?
 | .empty, b, P => ⟨Nat.le_refl _, fun _ _ => rfl⟩
 | .bytes x y z u, b, P => ⟨by simp [layX], fun k hk => by simp only [layX]; rw [List.getElem?_append_left hk]⟩
 | .cat l, b, P => layCat_keep l b P
 | .alt l, b, P => by
  have h := layAlt_keep l P.length b (P ++ [none_])
  simp only [layX]
  refine ⟨by have := h.1; simp at this; omega, fun k hk => ?_⟩
  rw [h.2 k (by simp; omega) (by omega), List.getElem?_append_left hk]
 | .star r, b, P => by
  have h := lay_keep r P.length (P ++ [none_])
  simp only [layX]
  refine ⟨by rw [setAlso_len]; have := h.1; simp at this; omega, fun k hk => ?_⟩
  rw [setAlso_ne _ (by omega), h.2 k (by simp; omega), List.getElem?_append_left hk]
theorem layCat_keep : ∀ (l : List RX) (b : Nat) (P : List Pl), P.length ≤ (layCat l b P).2.length ∧ ∀ k, k < P.length → (layCat l b P).2[k]? = P[k]?
 | [], b, P => ⟨Nat.le_refl _, fun _ _ => rfl⟩
 | r :: l, b, P => by
  have h1 := layCat_keep l b P
  have h2 := lay_keep r (layCat l b P).1 (layCat l b P).2
  simp only [layCat]
  exact ⟨Nat.le_trans h1.1 h2.1, fun k hk => (h2.2 k (by omega)).trans (h1.2 k hk)⟩
theorem layAlt_keep : ∀ (l : List RX) (a b : Nat) (P : List Pl), P.length ≤ (layAlt l a b P).length ∧ ∀ k, k < P.length → k ≠ a → (layAlt l a b P)[k]? = P[k]?
 | [], a, b, P => ⟨Nat.le_refl _, fun _ _ _ => rfl⟩
 | r :: l, a, b, P => by
  have h1 := lay_keep r b P
  have h2 := layAlt_keep l a b (addAlso (layX r b P).2 a (layX r b P).1)
  rw [addAlso_len] at h2
  simp only [layAlt]
  exact ⟨Nat.le_trans h1.1 h2.1, fun k hk hne => (h2.2 k (by omega) hne).trans ((addAlso_ne _ hne).trans (h1.2 k hk))⟩
end
def Agree (Q P : List Pl) (n : Nat) : Prop := ∀ k, n ≤ k → k < P.length → Q[k]? = P[k]?
theorem Agree.from {Q P P' : List Pl} {n n' : Nat} (h : Agree Q P' n) (hl : P.length ≤ P'.length) (hk : ∀ k, n' ≤ k → k < P.length → P'[k]? = P[k]?) (hn : n ≤ n') : Agree Q P n' :=
 fun k h1 h2 => (h k (by omega) (by omega)).trans (hk k h1 h2)
theorem has_byte {a b c d : Nat} {x : UInt8} : hasX (.bytes a b c d) x.toNat = true ↔ Mt (.bytes a b c d) [x] := by
 unfold hasX
 constructor
 ·intro h
  exact .byte a b c d x (by simpa using h)
 ·intro h
  generalize hs : [x] = s at h
  generalize hr : RX.bytes a b c d = r at h
  cases h with
  | byte a' b' c' d' y hy =>
   injection hs with h1 _
   injection hr with e1 e2 e3 e4
   subst h1 e1 e2 e3 e4
   simpa using hy
  | _ => cases hr
theorem mt_bytes_inv {a b c d : Nat} {s : List UInt8} (h : Mt (.bytes a b c d) s) : ∃ x, s = [x] := by
 generalize hr : RX.bytes a b c d = r at h
 cases h with
 | byte a' b' c' d' y hy => exact ⟨y, rfl⟩
 | _ => cases hr
theorem mt_empty_inv {s : List UInt8} (h : Mt .empty s) : s = [] := by
 generalize hr : RX.empty = r at h
 cases h with
 | empty => rfl
 | _ => cases hr
theorem mt_cat_inv {l : List RX} {s : List UInt8} (h : Mt (.cat l) s) : MtL l s := by
 generalize hr : RX.cat l = r at h
 cases h with
 | cat l' s h => injection hr with e; subst e; exact h
 | _ => cases hr
theorem mt_alt_inv {l : List RX} {s : List UInt8} (h : Mt (.alt l) s) : ∃ r ∈ l, Mt r s := by
 generalize hr : RX.alt l = r at h
 cases h with
 | alt l' r s h1 h2 => injection hr with e; subst e; exact ⟨r, h1, h2⟩
 | _ => cases hr
theorem mtL_nil_inv {s : List UInt8} (h : MtL [] s) : s = [] := by cases h; rfl
theorem mtL_cons_inv {r : RX} {l : List RX} {s : List UInt8} (h : MtL (r :: l) s) : ∃ s1 s2, s = s1 ++ s2 ∧ Mt r s1 ∧ MtL l s2 := by
 cases h with
 | cons _ _ s t h1 h2 => exact ⟨s, t, rfl, h1, h2⟩
theorem star_list {r : RX} : ∀ {r' : RX} {s : List UInt8}, Mt r' s → r' = .star r → ∃ L : List (List UInt8), (∀ t ∈ L, Mt r t) ∧ s = L.flatten
 | _, _, .star0 _, _ => ⟨[], by simp, rfl⟩
 | _, _, .star1 r' s t h h2, e => by
  obtain ⟨L, h3, rfl⟩ := star_list h2 e
  injection e with e
  subst e
  exact ⟨s :: L, by intro x hx; simp at hx; rcases hx with rfl | hx; exact h; exact h3 x hx, rfl⟩
end Go.Proofs.X3
namespace Go.Proofs.X3
set_option linter.unusedVariables false
inductive Eps (P : List Pl) : Nat → Nat → Prop
 | refl (p : Nat) : Eps P p p
 | step (p q r : Nat) (pl : Pl) (h : P[p]? = some pl) (hq : q ∈ pl.also) (hr : Eps P q r) : Eps P p r
theorem Eps.trans {P : List Pl} {a b c : Nat} (h : Eps P a b) (k : Eps P b c) : Eps P a c := by
 induction h with
 | refl => exact k
 | step p q r pl h hq hr ih => exact .step p q c pl h hq (ih k)
inductive Reach (P : List Pl) (f : Nat) : List UInt8 → Nat → Prop
 | start (q : Nat) (h : Eps P f q) : Reach P f [] q
 | step (s : List UInt8) (x : UInt8) (p q : Nat) (pl : Pl) (hp : Reach P f s p) (h : P[p]? = some pl) (hx : hasX pl.b x.toNat = true) (hq : Eps P pl.next q) : Reach P f (s ++ [x]) q
theorem Reach.eps {P : List Pl} {f : Nat} {s : List UInt8} {p q : Nat} (h : Reach P f s p) (k : Eps P p q) : Reach P f s q := by
 cases h with
 | start _ h => exact .start q (h.trans k)
 | step s x p' _ pl hp h hx hq => exact .step s x p' q pl hp h hx (hq.trans k)
def Bd (P : List Pl) (n : Nat) : Prop := ∀ pl ∈ P, pl.next < n ∧ ∀ q ∈ pl.also, q < n
theorem Bd.mono {P : List Pl} {n m : Nat} (h : Bd P n) (hm : n ≤ m) : Bd P m := fun pl hp => ⟨Nat.lt_of_lt_of_le (h pl hp).1 hm, fun q hq => Nat.lt_of_lt_of_le ((h pl hp).2 q hq) hm⟩
theorem Bd.app {P : List Pl} {n : Nat} (h : Bd P n) {pl : Pl} (h1 : pl.next < n) (h2 : ∀ q ∈ pl.also, q < n) : Bd (P ++ [pl]) n := by
 intro x hx
 simp at hx
 rcases hx with hx | rfl
 ·exact h x hx
 ·exact ⟨h1, h2⟩
theorem Bd.addAlso {P : List Pl} {n a f : Nat} (h : Bd P n) (hf : f < n) : Bd (addAlso P a f) n := by
 intro x hx
 obtain ⟨k, e⟩ := List.mem_iff_getElem?.1 hx
 by_cases hk : k = a
 ·subst hk
  cases hP : P[k]? with
  | none => unfold X3.addAlso at e; rw [List.getElem?_modify, hP] at e; cases e
  | some y =>
   rw [addAlso_at P hP] at e
   obtain rfl := Option.some.inj e
   have := h y (List.mem_iff_getElem?.2 ⟨k, hP⟩)
   refine ⟨this.1, fun q hq => ?_⟩
   simp at hq
   rcases hq with hq | rfl
   ·exact this.2 q hq
   ·exact hf
 ·rw [addAlso_ne P hk] at e
  exact h x (List.mem_iff_getElem?.2 ⟨k, e⟩)
theorem Bd.setAlso {P : List Pl} {n a : Nat} {l : List Nat} (h : Bd P n) (hl : ∀ q ∈ l, q < n) : Bd (setAlso P a l) n := by
 intro x hx
 obtain ⟨k, e⟩ := List.mem_iff_getElem?.1 hx
 by_cases hk : k = a
 ·subst hk
  cases hP : P[k]? with
  | none => unfold X3.setAlso at e; rw [List.getElem?_modify, hP] at e; cases e
  | some y =>
   rw [setAlso_at P hP] at e
   obtain rfl := Option.some.inj e
   exact ⟨(h y (List.mem_iff_getElem?.2 ⟨k, hP⟩)).1, hl⟩
 ·rw [setAlso_ne P hk] at e
  exact h x (List.mem_iff_getElem?.2 ⟨k, e⟩)
def muL (P : List Pl) : Nat := (P.map fun pl => 1 + pl.also.length).sum
theorem muL_app (P : List Pl) (pl : Pl) : muL (P ++ [pl]) = muL P + (1 + pl.also.length) := by simp [muL]
theorem muL_add (P : List Pl) (a f : Nat) : muL (addAlso P a f) ≤ muL P + 1 := by
 unfold addAlso muL
 induction P generalizing a with
 | nil => simp
 | cons p P ih =>
  cases a with
  | zero => simp; omega
  | succ a => have := ih a; simp at this ⊢; omega
theorem muL_set (P : List Pl) (a : Nat) (l : List Nat) : muL (setAlso P a l) ≤ muL P + l.length := by
 unfold setAlso muL
 induction P generalizing a with
 | nil => simp
 | cons p P ih =>
  cases a with
  | zero => simp; omega
  | succ a => have := ih a; simp at this ⊢; omega
structure Sound (P P' : List Pl) (i n : Nat) : Prop where
 bd : Bd P' P'.length
 lt : i < P'.length
 len : P'.length ≤ P.length + n
 mu : muL P' ≤ muL P + (4 * n - 1)
mutual
theorem lay_sound : ∀ (r : RX) (b : Nat) (P : List Pl), Bd P P.length → b < P.length → Sound P (layX r b P).2 (layX r b P).1 r.size
 | .empty, b, P, h, hb => ⟨h, hb, by simp [layX], by simp [layX]⟩
 | .bytes x y z u, b, P, h, hb => by
  simp only [layX, RX.size]
  exact ⟨(h.mono (by simp)).app (by simp; omega) (by simp), by simp, by simp, by rw [muL_app]; simp⟩
 | .cat l, b, P, h, hb => by
  have h1 := layCat_sound l b P h hb
  simp only [layX, RX.size]
  exact ⟨h1.1, h1.2.1, by have := h1.2.2.1; omega, by have := h1.2.2.2; omega⟩
 | .alt l, b, P, h, hb => by
  have h1 := layAlt_sound l P.length b (P ++ [none_]) ((h.mono (by simp)).app (by simp [none_]) (by simp [none_])) (by simp; omega)
  have k1 := (layAlt_keep l P.length b (P ++ [none_])).1
  simp only [layX, RX.size]
  have e : muL (P ++ [none_]) = muL P + 1 := by rw [muL_app]; rfl
  simp at k1
  exact ⟨h1.1, by omega, by have := h1.2.1; simp at this; omega, by have := h1.2.2; omega⟩
 | .star r, b, P, h, hb => by
  have h1 := lay_sound r P.length (P ++ [none_]) ((h.mono (by simp)).app (by simp [none_]) (by simp [none_])) (by simp)
  have k1 := (lay_keep r P.length (P ++ [none_])).1
  simp only [layX, RX.size]
  have e : muL (P ++ [none_]) = muL P + 1 := by rw [muL_app]; rfl
  have h2 := muL_set (layX r P.length (P ++ [none_])).2 P.length [b, (layX r P.length (P ++ [none_])).1]
  simp at k1 h2
  refine ⟨?_, by rw [setAlso_len]; omega, by rw [setAlso_len]; have := h1.len; simp at this; omega, by have := h1.mu; omega⟩
  rw [setAlso_len]
  refine h1.bd.setAlso fun q hq => ?_
  simp at hq
  rcases hq with rfl | rfl
  ·omega
  ·exact h1.lt
theorem layCat_sound : ∀ (l : List RX) (b : Nat) (P : List Pl), Bd P P.length → b < P.length → Bd (layCat l b P).2 (layCat l b P).2.length ∧ (layCat l b P).1 < (layCat l b P).2.length ∧ (layCat l b P).2.length ≤ P.length + sizeL l ∧ muL (layCat l b P).2 ≤ muL P + 4 * sizeL l
 | [], b, P, h, hb => ⟨h, hb, by simp [layCat], by simp [layCat]⟩
 | r :: l, b, P, h, hb => by
  have h1 := layCat_sound l b P h hb
  have h2 := lay_sound r (layCat l b P).1 (layCat l b P).2 h1.1 h1.2.1
  simp only [layCat, sizeL]
  exact ⟨h2.bd, h2.lt, by have := h2.len; omega, by have := h2.mu; omega⟩
theorem layAlt_sound : ∀ (l : List RX) (a b : Nat) (P : List Pl), Bd P P.length → b < P.length → Bd (layAlt l a b P) (layAlt l a b P).length ∧ (layAlt l a b P).length ≤ P.length + sizeL l ∧ muL (layAlt l a b P) ≤ muL P + 4 * sizeL l
 | [], a, b, P, h, hb => ⟨h, by simp [layAlt], by simp [layAlt]⟩
 | r :: l, a, b, P, h, hb => by
  have h1 := lay_sound r b P h hb
  have h2 := layAlt_sound l a b (addAlso (layX r b P).2 a (layX r b P).1) (by rw [addAlso_len]; exact h1.bd.addAlso h1.lt) (by rw [addAlso_len]; have := (lay_keep r b P).1; omega)
  have h3 := muL_add (layX r b P).2 a (layX r b P).1
  rw [addAlso_len] at h2
  simp only [layAlt, sizeL]
  have h4 : 1 ≤ r.size := by cases r <;> simp only [RX.size] <;> omega
  exact ⟨h2.1, by have := h1.len; omega, by have := h1.mu; omega⟩
end
theorem also_le_mu {P : List Pl} {k : Nat} {pl : Pl} (h : P[k]? = some pl) : pl.also.length ≤ muL P := by
 unfold muL
 induction P generalizing k with
 | nil => cases h
 | cons p P ih =>
  cases k with
  | zero => simp at h; subst h; simp; omega
  | succ k => have := ih (by simpa using h); simp at this ⊢; omega
theorem modify_also {P : List Pl} {k f : Nat} {pl : Pl} (h : P[k]? = some pl) : (P.modify k fun p => { p with also := pl.also ++ [f] }) = addAlso P k f := by
 unfold addAlso
 apply List.ext_getElem?
 intro i
 rw [List.getElem?_modify, List.getElem?_modify]
 by_cases e : k = i
 ·subst e; rw [h]; simp
 ·simp only [if_neg e]
structure Gath (P : List Pl) (T : Nat → Prop) (v : Nat) (seen : List Nat) (at_ more : List Nat) : Prop where
 len : seen.length = P.length
 old : ∀ (p x : Nat), seen[p]? = some x → x ≤ v
 moreT : ∀ q ∈ more, T q
 marksT : ∀ p : Nat, seen[p]? = some v → T p
 closed : ∀ (p : Nat) (pl : Pl), seen[p]? = some v → P[p]? = some pl → ∀ q ∈ pl.also, seen[q]? = some v ∨ q ∈ more
 iff_ : ∀ p : Nat, p ∈ at_ ↔ seen[p]? = some v
theorem Gath.pop {P : List Pl} {T : Nat → Prop} {v : Nat} {seen at_ m : List Nat} {p : Nat} (h : Gath P T v seen at_ (m ++ [p])) (hp : seen[p]? = some v) : Gath P T v seen at_ m :=
 ⟨h.len, h.old, fun q hq => h.moreT q (by simp [hq]), h.marksT, fun p' pl h1 h2 q hq => by
  rcases h.closed p' pl h1 h2 q hq with h3 | h3
  ·exact .inl h3
  ·simp at h3
   rcases h3 with h3 | rfl
   ·exact .inr h3
   ·exact .inl hp, h.iff_⟩
theorem Gath.mark {P : List Pl} {T : Nat → Prop} {v : Nat} {seen at_ m : List Nat} {p : Nat} {pl : Pl} (hT : ∀ p pl, T p → P[p]? = some pl → ∀ q ∈ pl.also, T q)
  (h : Gath P T v seen at_ (m ++ [p])) (hpl : P[p]? = some pl) (hp : seen[p]? ≠ some v) : Gath P T v (seen.set p v) (at_ ++ [p]) (m ++ pl.also) := by
 have hlt : p < seen.length := by rw [h.len]; exact (List.getElem?_eq_some_iff.1 hpl).1
 have hs : ∀ q, (seen.set p v)[q]? = some v ↔ seen[q]? = some v ∨ q = p := by
  intro q
  by_cases e : q = p
  ·subst e; simp [List.getElem?_set_self hlt]
  ·rw [List.getElem?_set_ne (Ne.symm e)]; simp [e]
 have hTp : T p := h.moreT p (by simp)
 refine ⟨by simp [h.len], ?_, ?_, ?_, ?_, ?_⟩
 ·intro q x hq
  by_cases e : q = p
  ·subst e; rw [List.getElem?_set_self hlt] at hq; obtain rfl := Option.some.inj hq; exact Nat.le_refl _
  ·rw [List.getElem?_set_ne (Ne.symm e)] at hq; exact h.old q x hq
 ·intro q hq
  simp at hq
  rcases hq with hq | hq
  ·exact h.moreT q (by simp [hq])
  ·exact hT p pl hTp hpl q hq
 ·intro q hq
  rcases (hs q).1 hq with h1 | rfl
  ·exact h.marksT q h1
  ·exact hTp
 ·intro p' pl' h1 h2 q hq
  rcases (hs p').1 h1 with h3 | rfl
  ·rcases h.closed p' pl' h3 h2 q hq with h4 | h4
   ·exact .inl ((hs q).2 (.inl h4))
   ·simp at h4
    rcases h4 with h4 | rfl
    ·exact .inr (by simp [h4])
    ·exact .inl ((hs q).2 (.inr rfl))
  ·rw [hpl] at h2; obtain rfl := Option.some.inj h2
   exact .inr (by simp [hq])
 ·intro q
  rw [hs q, ← h.iff_ q]
  simp
theorem Gath.more {P : List Pl} {T : Nat → Prop} {v : Nat} {seen at_ : List Nat} {p : Nat} (h : Gath P T v seen at_ []) (hp : T p) : Gath P T v seen at_ [p] :=
 ⟨h.len, h.old, fun q hq => by simp at hq; subst hq; exact hp, h.marksT, fun p' pl h1 h2 q hq => .inl (by rcases h.closed p' pl h1 h2 q hq with h3 | h3; exact h3; cases h3), h.iff_⟩
end Go.Proofs.X3
