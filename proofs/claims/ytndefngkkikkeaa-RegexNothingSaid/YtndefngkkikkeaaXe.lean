/- Plain mathematics: a regex as places, from one to the next, and what they take. -/
import Derived.Test.YtndefngkkikkeaaSa
namespace Go.Proofs.X3
set_option linter.unusedVariables false

/-- A place: ahead of a byte, behind which another place is; or ahead of others at once. -/
structure Pl where
  b : RX
  next : Nat
  also : List Nat

/-- So many steps from a place to place 0, by a text. -/
inductive RunN (P : List Pl) : Nat → Nat → List UInt8 → Prop
  | stop : RunN P 0 0 []
  | eps (p q k : Nat) (s : List UInt8) (pl : Pl) (h : P[p]? = some pl) (hq : q ∈ pl.also) (hr : RunN P k q s) : RunN P (k + 1) p s
  | byte (p k : Nat) (x : UInt8) (s : List UInt8) (pl : Pl) (h : P[p]? = some pl) (hx : hasX pl.b x.toNat = true) (hr : RunN P k pl.next s) : RunN P (k + 1) p (x :: s)

def addAlso (P : List Pl) (at_ f : Nat) : List Pl := P.modify at_ fun pl => { pl with also := pl.also ++ [f] }
def setAlso (P : List Pl) (at_ : Nat) (l : List Nat) : List Pl := P.modify at_ fun pl => { pl with also := l }
def none_ : Pl := ⟨.empty, 0, []⟩

mutual
/-- The places of a regex, ahead of the one behind it: its first one, and all. -/
def layX : RX → Nat → List Pl → Nat × List Pl
  | .empty, b, P => (b, P)
  | .bytes x y z u, b, P => (P.length, P ++ [⟨.bytes x y z u, b, []⟩])
  | .cat l, b, P => layCat l b P
  | .alt l, b, P => (P.length, layAlt l P.length b (P ++ [none_]))
  | .star r, b, P => (P.length, setAlso (layX r P.length (P ++ [none_])).2 P.length [b, (layX r P.length (P ++ [none_])).1])
def layCat : List RX → Nat → List Pl → Nat × List Pl
  | [], b, P => (b, P)
  | r :: l, b, P => layX r (layCat l b P).1 (layCat l b P).2
def layAlt : List RX → Nat → Nat → List Pl → List Pl
  | [], _, _, P => P
  | r :: l, a, b, P => layAlt l a b (addAlso (layX r b P).2 a (layX r b P).1)
end

theorem addAlso_len (P : List Pl) (a f : Nat) : (addAlso P a f).length = P.length := by simp [addAlso]
theorem setAlso_len (P : List Pl) (a : Nat) (l : List Nat) : (setAlso P a l).length = P.length := by simp [setAlso]
theorem addAlso_ne (P : List Pl) {a f k : Nat} (h : k ≠ a) : (addAlso P a f)[k]? = P[k]? := by
  unfold addAlso; rw [List.getElem?_modify]; simp only [if_neg (Ne.symm h)]; cases P[k]? <;> rfl
theorem setAlso_ne (P : List Pl) {a k : Nat} {l : List Nat} (h : k ≠ a) : (setAlso P a l)[k]? = P[k]? := by
  unfold setAlso; rw [List.getElem?_modify]; simp only [if_neg (Ne.symm h)]; cases P[k]? <;> rfl
theorem addAlso_at (P : List Pl) {a f : Nat} {pl : Pl} (h : P[a]? = some pl) : (addAlso P a f)[a]? = some { pl with also := pl.also ++ [f] } := by
  unfold addAlso; rw [List.getElem?_modify, h]; simp
theorem setAlso_at (P : List Pl) {a : Nat} {l : List Nat} {pl : Pl} (h : P[a]? = some pl) : (setAlso P a l)[a]? = some { pl with also := l } := by
  unfold setAlso; rw [List.getElem?_modify, h]; simp

mutual
/-- All that was laid before stays. -/
theorem lay_keep : ∀ (r : RX) (b : Nat) (P : List Pl), P.length ≤ (layX r b P).2.length ∧ ∀ k, k < P.length → (layX r b P).2[k]? = P[k]?
  | .empty, b, P => ⟨Nat.le_refl _, fun _ _ => rfl⟩
  | .bytes x y z u, b, P => ⟨by simp [layX], fun k hk => by simp only [layX]; rw [List.getElem?_append_left hk]⟩
  | .cat l, b, P => layCat_keep l b P
  | .alt l, b, P => by
    have h := layAlt_keep l P.length b (P ++ [none_])
    simp only [layX]
    refine ⟨by have := h.1; simp at this; omega, fun k hk => ?_⟩
    rw [h.2 k (by simp; omega) (by omega), List.getElem?_append_left hk]
  | .star r, b, P => by
    have h := lay_keep r P.length (P ++ [none_])
    simp only [layX]
    refine ⟨by rw [setAlso_len]; have := h.1; simp at this; omega, fun k hk => ?_⟩
    rw [setAlso_ne _ (by omega), h.2 k (by simp; omega), List.getElem?_append_left hk]
theorem layCat_keep : ∀ (l : List RX) (b : Nat) (P : List Pl), P.length ≤ (layCat l b P).2.length ∧ ∀ k, k < P.length → (layCat l b P).2[k]? = P[k]?
  | [], b, P => ⟨Nat.le_refl _, fun _ _ => rfl⟩
  | r :: l, b, P => by
    have h1 := layCat_keep l b P
    have h2 := lay_keep r (layCat l b P).1 (layCat l b P).2
    simp only [layCat]
    exact ⟨Nat.le_trans h1.1 h2.1, fun k hk => (h2.2 k (by omega)).trans (h1.2 k hk)⟩
theorem layAlt_keep : ∀ (l : List RX) (a b : Nat) (P : List Pl), P.length ≤ (layAlt l a b P).length ∧ ∀ k, k < P.length → k ≠ a → (layAlt l a b P)[k]? = P[k]?
  | [], a, b, P => ⟨Nat.le_refl _, fun _ _ _ => rfl⟩
  | r :: l, a, b, P => by
    have h1 := lay_keep r b P
    have h2 := layAlt_keep l a b (addAlso (layX r b P).2 a (layX r b P).1)
    rw [addAlso_len] at h2
    simp only [layAlt]
    exact ⟨Nat.le_trans h1.1 h2.1, fun k hk hne => (h2.2 k (by omega) hne).trans ((addAlso_ne _ hne).trans (h1.2 k hk))⟩
end

/-- From place f on a text is matched by r, and then what is behind. -/
def Lang (Q : List Pl) (f : Nat) (r : RX) (b : Nat) : Prop :=
  (∀ k s, RunN Q k f s → ∃ s1 s2 k', s = s1 ++ s2 ∧ Mt r s1 ∧ k' ≤ k ∧ RunN Q k' b s2) ∧
  (∀ s1 s2, Mt r s1 → (∃ k, RunN Q k b s2) → ∃ k, RunN Q k f (s1 ++ s2))
def LangL (Q : List Pl) (f : Nat) (l : List RX) (b : Nat) : Prop :=
  (∀ k s, RunN Q k f s → ∃ s1 s2 k', s = s1 ++ s2 ∧ MtL l s1 ∧ k' ≤ k ∧ RunN Q k' b s2) ∧
  (∀ s1 s2, MtL l s1 → (∃ k, RunN Q k b s2) → ∃ k, RunN Q k f (s1 ++ s2))

def Agree (Q P : List Pl) (n : Nat) : Prop := ∀ k, n ≤ k → k < P.length → Q[k]? = P[k]?
theorem Agree.from {Q P P' : List Pl} {n n' : Nat} (h : Agree Q P' n) (hl : P.length ≤ P'.length) (hk : ∀ k, n' ≤ k → k < P.length → P'[k]? = P[k]?) (hn : n ≤ n') : Agree Q P n' :=
  fun k h1 h2 => (h k (by omega) (by omega)).trans (hk k h1 h2)

theorem has_byte {a b c d : Nat} {x : UInt8} : hasX (.bytes a b c d) x.toNat = true ↔ Mt (.bytes a b c d) [x] := by
  unfold hasX
  constructor
  · intro h
    exact .byte a b c d x (by simpa using h)
  · intro h
    generalize hs : [x] = s at h
    generalize hr : RX.bytes a b c d = r at h
    cases h with
    | byte a' b' c' d' y hy =>
      injection hs with h1 _
      injection hr with e1 e2 e3 e4
      subst h1 e1 e2 e3 e4
      simpa using hy
    | _ => cases hr

theorem runN_at {Q : List Pl} {k p : Nat} {s : List UInt8} {pl : Pl} (hp : Q[p]? = some pl) (h0 : p ≠ 0) (h : RunN Q k p s) :
    ∃ k', k = k' + 1 ∧ ((∃ q, q ∈ pl.also ∧ RunN Q k' q s) ∨ (∃ x s', s = x :: s' ∧ hasX pl.b x.toNat = true ∧ RunN Q k' pl.next s')) := by
  cases h with
  | stop => exact absurd rfl h0
  | eps _ q k s pl' h hq hr =>
    rw [hp] at h; obtain rfl := Option.some.inj h
    exact ⟨k, rfl, .inl ⟨q, hq, hr⟩⟩
  | byte _ k x s pl' h hx hr =>
    rw [hp] at h; obtain rfl := Option.some.inj h
    exact ⟨k, rfl, .inr ⟨x, s, rfl, hx, hr⟩⟩

theorem mt_bytes_inv {a b c d : Nat} {s : List UInt8} (h : Mt (.bytes a b c d) s) : ∃ x, s = [x] := by
  generalize hr : RX.bytes a b c d = r at h
  cases h with
  | byte a' b' c' d' y hy => exact ⟨y, rfl⟩
  | _ => cases hr
theorem mt_empty_inv {s : List UInt8} (h : Mt .empty s) : s = [] := by
  generalize hr : RX.empty = r at h
  cases h with
  | empty => rfl
  | _ => cases hr
theorem mt_cat_inv {l : List RX} {s : List UInt8} (h : Mt (.cat l) s) : MtL l s := by
  generalize hr : RX.cat l = r at h
  cases h with
  | cat l' s h => injection hr with e; subst e; exact h
  | _ => cases hr
theorem mt_alt_inv {l : List RX} {s : List UInt8} (h : Mt (.alt l) s) : ∃ r ∈ l, Mt r s := by
  generalize hr : RX.alt l = r at h
  cases h with
  | alt l' r s h1 h2 => injection hr with e; subst e; exact ⟨r, h1, h2⟩
  | _ => cases hr
theorem mtL_nil_inv {s : List UInt8} (h : MtL [] s) : s = [] := by cases h; rfl
theorem mtL_cons_inv {r : RX} {l : List RX} {s : List UInt8} (h : MtL (r :: l) s) : ∃ s1 s2, s = s1 ++ s2 ∧ Mt r s1 ∧ MtL l s2 := by
  cases h with
  | cons _ _ s t h1 h2 => exact ⟨s, t, rfl, h1, h2⟩

/-- What a star matches is cut into pieces. -/
theorem star_list {r : RX} : ∀ {r' : RX} {s : List UInt8}, Mt r' s → r' = .star r → ∃ L : List (List UInt8), (∀ t ∈ L, Mt r t) ∧ s = L.flatten
  | _, _, .star0 _, _ => ⟨[], by simp, rfl⟩
  | _, _, .star1 r' s t h h2, e => by
    obtain ⟨L, h3, rfl⟩ := star_list h2 e
    injection e with e
    subst e
    exact ⟨s :: L, by intro x hx; simp at hx; rcases hx with rfl | hx; exact h; exact h3 x hx, rfl⟩
theorem star_of {r : RX} : ∀ (L : List (List UInt8)), (∀ t ∈ L, Mt r t) → Mt (.star r) L.flatten
  | [], _ => .star0 r
  | t :: L, h => .star1 r t _ (h t (by simp)) (star_of L fun x hx => h x (by simp [hx]))

theorem star_run {Q : List Pl} {a b f : Nat} {r : RX} (h0 : a ≠ 0) (ha : Q[a]? = some ⟨.empty, 0, [b, f]⟩) (hL : Lang Q f r a) : Lang Q a (.star r) b := by
  constructor
  · intro k
    induction k using Nat.strongRecOn with
    | _ k ih =>
      intro s h
      obtain ⟨k', rfl, h1 | h1⟩ := runN_at ha h0 h
      · obtain ⟨q, hq, hr⟩ := h1
        simp only [List.mem_cons, List.not_mem_nil, or_false] at hq
        rcases hq with rfl | rfl
        · exact ⟨[], s, k', rfl, .star0 r, by omega, hr⟩
        · obtain ⟨s1, s2, k2, rfl, hm, hk, hr2⟩ := hL.1 _ _ hr
          obtain ⟨s3, s4, k3, rfl, hm2, hk2, hr3⟩ := ih k2 (by omega) s2 hr2
          exact ⟨s1 ++ s3, s4, k3, by simp, .star1 r s1 s3 hm hm2, by omega, hr3⟩
      · obtain ⟨x, s', _, hx, _⟩ := h1
        cases hx
  · intro s1 s2 hm hb
    obtain ⟨L, hL2, rfl⟩ := star_list hm rfl
    clear hm
    induction L with
    | nil =>
      obtain ⟨k, hk⟩ := hb
      exact ⟨k + 1, .eps a b k _ _ ha (by simp) hk⟩
    | cons t L ih =>
      obtain ⟨k, hk⟩ := hL.2 t (L.flatten ++ s2) (hL2 t (by simp)) (ih fun x hx => hL2 x (by simp [hx]))
      exact ⟨k + 1, .eps a f k _ _ ha (by simp) (by simpa using hk)⟩

mutual
/-- What is laid takes what the regex matches, whatever else there is. -/
theorem lay_lang : ∀ (r : RX) (b : Nat) (P Q : List Pl), 0 < P.length → Agree Q (layX r b P).2 P.length → Lang Q (layX r b P).1 r b
  | .empty, b, P, Q, h0, hQ => ⟨fun k s h => ⟨[], s, k, rfl, .empty, Nat.le_refl _, h⟩, fun s1 s2 h hb => by rw [mt_empty_inv h]; exact hb⟩
  | .bytes x y z u, b, P, Q, h0, hQ => by
    have hp : Q[P.length]? = some ⟨.bytes x y z u, b, []⟩ := by
      rw [hQ P.length (Nat.le_refl _) (by simp [layX])]; simp [layX]
    simp only [layX]
    constructor
    · intro k s h
      obtain ⟨k', rfl, h1 | h1⟩ := runN_at hp (by omega) h
      · obtain ⟨q, hq, _⟩ := h1; cases hq
      · obtain ⟨c, s', rfl, hx, hr⟩ := h1
        exact ⟨[c], s', k', rfl, has_byte.1 hx, by omega, hr⟩
    · intro s1 s2 hm hb
      obtain ⟨c, rfl⟩ := mt_bytes_inv hm
      obtain ⟨k, hk⟩ := hb
      exact ⟨k + 1, .byte _ k c s2 _ hp (has_byte.2 hm) hk⟩
  | .cat l, b, P, Q, h0, hQ => by
    have h := layCat_lang l b P Q h0 hQ
    simp only [layX]
    refine ⟨fun k s hr => ?_, fun s1 s2 hm hb => h.2 s1 s2 (mt_cat_inv hm) hb⟩
    obtain ⟨s1, s2, k', h1, h2, h3, h4⟩ := h.1 k s hr
    exact ⟨s1, s2, k', h1, .cat l s1 h2, h3, h4⟩
  | .alt l, b, P, Q, h0, hQ => by
    simp only [layX] at hQ ⊢
    have hat : (P ++ [none_])[P.length]? = some ⟨.empty, 0, []⟩ := by simp [none_]
    obtain ⟨fs, h1, h2, h3⟩ := layAlt_lang l P.length b (P ++ [none_]) Q [] (by simp) (by simp) hat (fun k h1 h2 => hQ k (by simp at h1; omega) h2)
    have hp : Q[P.length]? = some ⟨.empty, 0, fs⟩ := by
      rw [hQ P.length (Nat.le_refl _) (by have := (layAlt_keep l P.length b (P ++ [none_])).1; simp at this; omega)]; exact h1
    constructor
    · intro k s h
      obtain ⟨k', rfl, hh | hh⟩ := runN_at hp (by omega) h
      · obtain ⟨q, hq, hr⟩ := hh
        obtain ⟨r, hr1, hL⟩ := h2 q hq
        obtain ⟨s1, s2, k2, rfl, hm, hk, hr2⟩ := hL.1 _ _ hr
        exact ⟨s1, s2, k2, rfl, .alt l r s1 hr1 hm, by omega, hr2⟩
      · obtain ⟨c, s', _, hx, _⟩ := hh; cases hx
    · intro s1 s2 hm hb
      obtain ⟨r, hr, hm2⟩ := mt_alt_inv hm
      obtain ⟨f, hf, hL⟩ := h3 r hr
      obtain ⟨k, hk⟩ := hL.2 s1 s2 hm2 hb
      exact ⟨k + 1, .eps _ f k _ _ hp hf hk⟩
  | .star r, b, P, Q, h0, hQ => by
    simp only [layX] at hQ ⊢
    have hk := lay_keep r P.length (P ++ [none_])
    have hat : (layX r P.length (P ++ [none_])).2[P.length]? = some ⟨.empty, 0, []⟩ := by
      rw [hk.2 _ (by simp)]; simp [none_]
    have hp : Q[P.length]? = some ⟨.empty, 0, [b, (layX r P.length (P ++ [none_])).1]⟩ := by
      rw [hQ P.length (Nat.le_refl _) (by rw [setAlso_len]; have := hk.1; simp at this; omega), setAlso_at _ hat]
    refine star_run (by omega) hp (lay_lang r P.length (P ++ [none_]) Q (by simp) (fun k h1 h2 => ?_))
    simp at h1
    rw [hQ k (by omega) (by rw [setAlso_len]; exact h2), setAlso_ne _ (by omega)]
theorem layCat_lang : ∀ (l : List RX) (b : Nat) (P Q : List Pl), 0 < P.length → Agree Q (layCat l b P).2 P.length → LangL Q (layCat l b P).1 l b
  | [], b, P, Q, h0, hQ => ⟨fun k s h => ⟨[], s, k, rfl, .nil, Nat.le_refl _, h⟩, fun s1 s2 h hb => by rw [mtL_nil_inv h]; exact hb⟩
  | r :: l, b, P, Q, h0, hQ => by
    simp only [layCat] at hQ ⊢
    have k1 := layCat_keep l b P
    have k2 := lay_keep r (layCat l b P).1 (layCat l b P).2
    have h1 := layCat_lang l b P Q h0 (fun k h1 h2 => (hQ k h1 (by omega)).trans (k2.2 k h2))
    have h2 := lay_lang r (layCat l b P).1 (layCat l b P).2 Q (by omega) (fun k h1 h2 => hQ k (by omega) h2)
    constructor
    · intro k s h
      obtain ⟨s1, s2, k', rfl, hm, hk, hr⟩ := h2.1 k s h
      obtain ⟨s3, s4, k3, rfl, hm2, hk2, hr2⟩ := h1.1 _ _ hr
      exact ⟨s1 ++ s3, s4, k3, by simp, .cons r l s1 s3 hm hm2, by omega, hr2⟩
    · intro s1 s2 hm hb
      obtain ⟨s3, s4, rfl, h3, h4⟩ := mtL_cons_inv hm
      obtain ⟨k, hk⟩ := h2.2 s3 (s4 ++ s2) h3 (h1.2 s4 s2 h4 hb)
      exact ⟨k, by simpa using hk⟩
theorem layAlt_lang : ∀ (l : List RX) (a b : Nat) (P Q : List Pl) (A : List Nat), 0 < P.length → a < P.length → P[a]? = some ⟨.empty, 0, A⟩ → Agree Q (layAlt l a b P) P.length →
    ∃ fs, (layAlt l a b P)[a]? = some ⟨.empty, 0, A ++ fs⟩ ∧ (∀ f ∈ fs, ∃ r ∈ l, Lang Q f r b) ∧ (∀ r ∈ l, ∃ f ∈ fs, Lang Q f r b)
  | [], a, b, P, Q, A, h0, ha, hA, hQ => ⟨[], by rw [List.append_nil]; exact hA, by simp, by simp⟩
  | r :: l, a, b, P, Q, A, h0, ha, hA, hQ => by
    simp only [layAlt] at hQ ⊢
    have k1 := lay_keep r b P
    have k2 := layAlt_keep l a b (addAlso (layX r b P).2 a (layX r b P).1)
    rw [addAlso_len] at k2
    have hL := lay_lang r b P Q h0 (fun k h1 h2 => by rw [hQ k h1 (by omega), k2.2 k h2 (by omega), addAlso_ne _ (by omega)])
    have hA2 : (addAlso (layX r b P).2 a (layX r b P).1)[a]? = some ⟨.empty, 0, A ++ [(layX r b P).1]⟩ := by
      rw [addAlso_at _ (pl := ⟨.empty, 0, A⟩) (by rw [k1.2 a ha]; exact hA)]
    obtain ⟨fs, h1, h2, h3⟩ := layAlt_lang l a b (addAlso (layX r b P).2 a (layX r b P).1) Q (A ++ [(layX r b P).1]) (by rw [addAlso_len]; omega) (by rw [addAlso_len]; omega) hA2 (fun k h1 h2 => hQ k (by rw [addAlso_len] at h1; omega) h2)
    refine ⟨(layX r b P).1 :: fs, by rw [h1]; simp, ?_, ?_⟩
    · intro f hf
      simp at hf
      rcases hf with rfl | hf
      · exact ⟨r, by simp, hL⟩
      · obtain ⟨r', h4, h5⟩ := h2 f hf
        exact ⟨r', by simp [h4], h5⟩
    · intro r' hr'
      simp at hr'
      rcases hr' with rfl | hr'
      · exact ⟨_, by simp, hL⟩
      · obtain ⟨f, h4, h5⟩ := h3 r' hr'
        exact ⟨f, by simp [h4], h5⟩
end

/-- The places of a regex, from its end on. -/
def placesX (r : RX) : List Pl := (layX r 0 [none_]).2
def firstX (r : RX) : Nat := (layX r 0 [none_]).1
theorem places_zero (r : RX) : (placesX r)[0]? = some none_ := by
  unfold placesX; rw [(lay_keep r 0 [none_]).2 0 (by simp)]; rfl

/-- It is matched just where place 0 is come to. -/
theorem run_match (r : RX) (s : List UInt8) : (∃ k, RunN (placesX r) k (firstX r) s) ↔ Mt r s := by
  have hL := lay_lang r 0 [none_] (placesX r) (by simp) (fun k _ _ => rfl)
  have hz : ∀ k s, RunN (placesX r) k 0 s → s = [] := by
    intro k s h
    cases h with
    | stop => rfl
    | eps _ q k s pl h hq hr =>
      rw [places_zero] at h; obtain rfl := Option.some.inj h
      cases hq
    | byte _ k x s pl h hx hr =>
      rw [places_zero] at h; obtain rfl := Option.some.inj h
      cases hx
  constructor
  · rintro ⟨k, hk⟩
    obtain ⟨s1, s2, k', rfl, hm, _, hr⟩ := hL.1 k s hk
    rw [hz _ _ hr, List.append_nil]
    exact hm
  · intro hm
    obtain ⟨k, hk⟩ := hL.2 s [] hm ⟨0, .stop⟩
    exact ⟨k, by rw [List.append_nil] at hk; exact hk⟩

end Go.Proofs.X3
