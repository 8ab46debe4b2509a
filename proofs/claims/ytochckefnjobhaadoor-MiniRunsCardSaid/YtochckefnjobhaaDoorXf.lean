/- Plain mathematics: a regex as places, from one to the next, and what they take. -/
import Derived.Test.YtochckefnjobhaaDoorSa
namespace Go.Proofs.X3
set_option linter.unusedVariables false

/-- A place: ahead of a byte, behind which another place is; or ahead of others at once. -/
structure Pl where
  b : RX
  next : Nat
  also : List Nat

/-- So many steps from a place to place 0, by a text. -/
inductive RunN (P : List Pl) : Nat → Nat → List UInt8 → Prop
  | stop : RunN P 0 0 []
  | eps (p q k : Nat) (s : List UInt8) (pl : Pl) (h : P[p]? = some pl) (hq : q ∈ pl.also) (hr : RunN P k q s) : RunN P (k + 1) p s
  | byte (p k : Nat) (x : UInt8) (s : List UInt8) (pl : Pl) (h : P[p]? = some pl) (hx : hasX pl.b x.toNat = true) (hr : RunN P k pl.next s) : RunN P (k + 1) p (x :: s)

def addAlso (P : List Pl) (at_ f : Nat) : List Pl := P.modify at_ fun pl => { pl with also := pl.also ++ [f] }
def setAlso (P : List Pl) (at_ : Nat) (l : List Nat) : List Pl := P.modify at_ fun pl => { pl with also := l }
def none_ : Pl := ⟨.empty, 0, []⟩

mutual
/-- The places of a regex, ahead of the one behind it: its first one, and all. -/
def layX : RX → Nat → List Pl → Nat × List Pl
  | .empty, b, P => (b, P)
  | .bytes x y z u, b, P => (P.length, P ++ [⟨.bytes x y z u, b, []⟩])
  | .cat l, b, P => layCat l b P
  | .alt l, b, P => (P.length, layAlt l P.length b (P ++ [none_]))
  | .star r, b, P => (P.length, setAlso (layX r P.length (P ++ [none_])).2 P.length [b, (layX r P.length (P ++ [none_])).1])
def layCat : List RX → Nat → List Pl → Nat × List Pl
  | [], b, P => (b, P)
  | r :: l, b, P => layX r (layCat l b P).1 (layCat l b P).2
def layAlt : List RX → Nat → Nat → List Pl → List Pl
  | [], _, _, P => P
  | r :: l, a, b, P => layAlt l a b (addAlso (layX r b P).2 a (layX r b P).1)
end

theorem addAlso_len (P : List Pl) (a f : Nat) : (addAlso P a f).length = P.length := by simp [addAlso]
theorem setAlso_len (P : List Pl) (a : Nat) (l : List Nat) : (setAlso P a l).length = P.length := by simp [setAlso]
theorem addAlso_ne (P : List Pl) {a f k : Nat} (h : k ≠ a) : (addAlso P a f)[k]? = P[k]? := by
  unfold addAlso; rw [List.getElem?_modify]; simp only [if_neg (Ne.symm h)]; cases P[k]? <;> rfl
theorem setAlso_ne (P : List Pl) {a k : Nat} {l : List Nat} (h : k ≠ a) : (setAlso P a l)[k]? = P[k]? := by
  unfold setAlso; rw [List.getElem?_modify]; simp only [if_neg (Ne.symm h)]; cases P[k]? <;> rfl
theorem addAlso_at (P : List Pl) {a f : Nat} {pl : Pl} (h : P[a]? = some pl) : (addAlso P a f)[a]? = some { pl with also := pl.also ++ [f] } := by
  unfold addAlso; rw [List.getElem?_modify, h]; simp
theorem setAlso_at (P : List Pl) {a : Nat} {l : List Nat} {pl : Pl} (h : P[a]? = some pl) : (setAlso P a l)[a]? = some { pl with also := l } := by
  unfold setAlso; rw [List.getElem?_modify, h]; simp

mutual
/-- All that was laid before stays. -/
theorem lay_keep : ∀ (r : RX) (b : Nat) (P : List Pl), P.length ≤ (layX r b P).2.length ∧ ∀ k, k < P.length → (layX r b P).2[k]? = P[k]?
  | .empty, b, P => ⟨Nat.le_refl _, fun _ _ => rfl⟩
  | .bytes x y z u, b, P => ⟨by simp [layX], fun k hk => by simp only [layX]; rw [List.getElem?_append_left hk]⟩
  | .cat l, b, P => layCat_keep l b P
  | .alt l, b, P => by
    have h := layAlt_keep l P.length b (P ++ [none_])
    simp only [layX]
    refine ⟨by have := h.1; simp at this; omega, fun k hk => ?_⟩
    rw [h.2 k (by simp; omega) (by omega), List.getElem?_append_left hk]
  | .star r, b, P => by
    have h := lay_keep r P.length (P ++ [none_])
    simp only [layX]
    refine ⟨by rw [setAlso_len]; have := h.1; simp at this; omega, fun k hk => ?_⟩
    rw [setAlso_ne _ (by omega), h.2 k (by simp; omega), List.getElem?_append_left hk]
theorem layCat_keep : ∀ (l : List RX) (b : Nat) (P : List Pl), P.length ≤ (layCat l b P).2.length ∧ ∀ k, k < P.length → (layCat l b P).2[k]? = P[k]?
  | [], b, P => ⟨Nat.le_refl _, fun _ _ => rfl⟩
  | r :: l, b, P => by
    have h1 := layCat_keep l b P
    have h2 := lay_keep r (layCat l b P).1 (layCat l b P).2
    simp only [layCat]
    exact ⟨Nat.le_trans h1.1 h2.1, fun k hk => (h2.2 k (by omega)).trans (h1.2 k hk)⟩
theorem layAlt_keep : ∀ (l : List RX) (a b : Nat) (P : List Pl), P.length ≤ (layAlt l a b P).length ∧ ∀ k, k < P.length → k ≠ a → (layAlt l a b P)[k]? = P[k]?
  | [], a, b, P => ⟨Nat.le_refl _, fun _ _ _ => rfl⟩
  | r :: l, a, b, P => by
    have h1 := lay_keep r b P
    have h2 := layAlt_keep l a b (addAlso (layX r b P).2 a (layX r b P).1)
    rw [addAlso_len] at h2
    simp only [layAlt]
    exact ⟨Nat.le_trans h1.1 h2.1, fun k hk hne => (h2.2 k (by omega) hne).trans ((addAlso_ne _ hne).trans (h1.2 k hk))⟩
end

/-- From place f on a text is matched by r, and then what is behind. -/
def Lang (Q : List Pl) (f : Nat) (r : RX) (b : Nat) : Prop :=
  (∀ k s, RunN Q k f s → ∃ s1 s2 k', s = s1 ++ s2 ∧ Mt r s1 ∧ k' ≤ k ∧ RunN Q k' b s2) ∧
  (∀ s1 s2, Mt r s1 → (∃ k, RunN Q k b s2) → ∃ k, RunN Q k f (s1 ++ s2))
def LangL (Q : List Pl) (f : Nat) (l : List RX) (b : Nat) : Prop :=
  (∀ k s, RunN Q k f s → ∃ s1 s2 k', s = s1 ++ s2 ∧ MtL l s1 ∧ k' ≤ k ∧ RunN Q k' b s2) ∧
  (∀ s1 s2, MtL l s1 → (∃ k, RunN Q k b s2) → ∃ k, RunN Q k f (s1 ++ s2))

def Agree (Q P : List Pl) (n : Nat) : Prop := ∀ k, n ≤ k → k < P.length → Q[k]? = P[k]?
theorem Agree.from {Q P P' : List Pl} {n n' : Nat} (h : Agree Q P' n) (hl : P.length ≤ P'.length) (hk : ∀ k, n' ≤ k → k < P.length → P'[k]? = P[k]?) (hn : n ≤ n') : Agree Q P n' :=
  fun k h1 h2 => (h k (by omega) (by omega)).trans (hk k h1 h2)

theorem has_byte {a b c d : Nat} {x : UInt8} : hasX (.bytes a b c d) x.toNat = true ↔ Mt (.bytes a b c d) [x] := by
  unfold hasX
  constructor
  · intro h
    exact .byte a b c d x (by simpa using h)
  · intro h
    generalize hs : [x] = s at h
    generalize hr : RX.bytes a b c d = r at h
    cases h with
    | byte a' b' c' d' y hy =>
      injection hs with h1 _
      injection hr with e1 e2 e3 e4
      subst h1 e1 e2 e3 e4
      simpa using hy
    | _ => cases hr

theorem runN_at {Q : List Pl} {k p : Nat} {s : List UInt8} {pl : Pl} (hp : Q[p]? = some pl) (h0 : p ≠ 0) (h : RunN Q k p s) :
    ∃ k', k = k' + 1 ∧ ((∃ q, q ∈ pl.also ∧ RunN Q k' q s) ∨ (∃ x s', s = x :: s' ∧ hasX pl.b x.toNat = true ∧ RunN Q k' pl.next s')) := by
  cases h with
  | stop => exact absurd rfl h0
  | eps _ q k s pl' h hq hr =>
    rw [hp] at h; obtain rfl := Option.some.inj h
    exact ⟨k, rfl, .inl ⟨q, hq, hr⟩⟩
  | byte _ k x s pl' h hx hr =>
    rw [hp] at h; obtain rfl := Option.some.inj h
    exact ⟨k, rfl, .inr ⟨x, s, rfl, hx, hr⟩⟩

theorem mt_bytes_inv {a b c d : Nat} {s : List UInt8} (h : Mt (.bytes a b c d) s) : ∃ x, s = [x] := by
  generalize hr : RX.bytes a b c d = r at h
  cases h with
  | byte a' b' c' d' y hy => exact ⟨y, rfl⟩
  | _ => cases hr
theorem mt_empty_inv {s : List UInt8} (h : Mt .empty s) : s = [] := by
  generalize hr : RX.empty = r at h
  cases h with
  | empty => rfl
  | _ => cases hr
theorem mt_cat_inv {l : List RX} {s : List UInt8} (h : Mt (.cat l) s) : MtL l s := by
  generalize hr : RX.cat l = r at h
  cases h with
  | cat l' s h => injection hr with e; subst e; exact h
  | _ => cases hr
theorem mt_alt_inv {l : List RX} {s : List UInt8} (h : Mt (.alt l) s) : ∃ r ∈ l, Mt r s := by
  generalize hr : RX.alt l = r at h
  cases h with
  | alt l' r s h1 h2 => injection hr with e; subst e; exact ⟨r, h1, h2⟩
  | _ => cases hr
theorem mtL_nil_inv {s : List UInt8} (h : MtL [] s) : s = [] := by cases h; rfl
theorem mtL_cons_inv {r : RX} {l : List RX} {s : List UInt8} (h : MtL (r :: l) s) : ∃ s1 s2, s = s1 ++ s2 ∧ Mt r s1 ∧ MtL l s2 := by
  cases h with
  | cons _ _ s t h1 h2 => exact ⟨s, t, rfl, h1, h2⟩

/-- What a star matches is cut into pieces. -/
theorem star_list {r : RX} : ∀ {r' : RX} {s : List UInt8}, Mt r' s → r' = .star r → ∃ L : List (List UInt8), (∀ t ∈ L, Mt r t) ∧ s = L.flatten
  | _, _, .star0 _, _ => ⟨[], by simp, rfl⟩
  | _, _, .star1 r' s t h h2, e => by
    obtain ⟨L, h3, rfl⟩ := star_list h2 e
    injection e with e
    subst e
    exact ⟨s :: L, by intro x hx; simp at hx; rcases hx with rfl | hx; exact h; exact h3 x hx, rfl⟩
theorem star_of {r : RX} : ∀ (L : List (List UInt8)), (∀ t ∈ L, Mt r t) → Mt (.star r) L.flatten
  | [], _ => .star0 r
  | t :: L, h => .star1 r t _ (h t (by simp)) (star_of L fun x hx => h x (by simp [hx]))

theorem star_run {Q : List Pl} {a b f : Nat} {r : RX} (h0 : a ≠ 0) (ha : Q[a]? = some ⟨.empty, 0, [b, f]⟩) (hL : Lang Q f r a) : Lang Q a (.star r) b := by
  constructor
  · intro k
    induction k using Nat.strongRecOn with
    | _ k ih =>
      intro s h
      obtain ⟨k', rfl, h1 | h1⟩ := runN_at ha h0 h
      · obtain ⟨q, hq, hr⟩ := h1
        simp only [List.mem_cons, List.not_mem_nil, or_false] at hq
        rcases hq with rfl | rfl
        · exact ⟨[], s, k', rfl, .star0 r, by omega, hr⟩
        · obtain ⟨s1, s2, k2, rfl, hm, hk, hr2⟩ := hL.1 _ _ hr
          obtain ⟨s3, s4, k3, rfl, hm2, hk2, hr3⟩ := ih k2 (by omega) s2 hr2
          exact ⟨s1 ++ s3, s4, k3, by simp, .star1 r s1 s3 hm hm2, by omega, hr3⟩
      · obtain ⟨x, s', _, hx, _⟩ := h1
        cases hx
  · intro s1 s2 hm hb
    obtain ⟨L, hL2, rfl⟩ := star_list hm rfl
    clear hm
    induction L with
    | nil =>
      obtain ⟨k, hk⟩ := hb
      exact ⟨k + 1, .eps a b k _ _ ha (by simp) hk⟩
    | cons t L ih =>
      obtain ⟨k, hk⟩ := hL.2 t (L.flatten ++ s2) (hL2 t (by simp)) (ih fun x hx => hL2 x (by simp [hx]))
      exact ⟨k + 1, .eps a f k _ _ ha (by simp) (by simpa using hk)⟩

mutual
/-- What is laid takes what the regex matches, whatever else there is. -/
theorem lay_lang : ∀ (r : RX) (b : Nat) (P Q : List Pl), 0 < P.length → Agree Q (layX r b P).2 P.length → Lang Q (layX r b P).1 r b
  | .empty, b, P, Q, h0, hQ => ⟨fun k s h => ⟨[], s, k, rfl, .empty, Nat.le_refl _, h⟩, fun s1 s2 h hb => by rw [mt_empty_inv h]; exact hb⟩
  | .bytes x y z u, b, P, Q, h0, hQ => by
    have hp : Q[P.length]? = some ⟨.bytes x y z u, b, []⟩ := by
      rw [hQ P.length (Nat.le_refl _) (by simp [layX])]; simp [layX]
    simp only [layX]
    constructor
    · intro k s h
      obtain ⟨k', rfl, h1 | h1⟩ := runN_at hp (by omega) h
      · obtain ⟨q, hq, _⟩ := h1; cases hq
      · obtain ⟨c, s', rfl, hx, hr⟩ := h1
        exact ⟨[c], s', k', rfl, has_byte.1 hx, by omega, hr⟩
    · intro s1 s2 hm hb
      obtain ⟨c, rfl⟩ := mt_bytes_inv hm
      obtain ⟨k, hk⟩ := hb
      exact ⟨k + 1, .byte _ k c s2 _ hp (has_byte.2 hm) hk⟩
  | .cat l, b, P, Q, h0, hQ => by
    have h := layCat_lang l b P Q h0 hQ
    simp only [layX]
    refine ⟨fun k s hr => ?_, fun s1 s2 hm hb => h.2 s1 s2 (mt_cat_inv hm) hb⟩
    obtain ⟨s1, s2, k', h1, h2, h3, h4⟩ := h.1 k s hr
    exact ⟨s1, s2, k', h1, .cat l s1 h2, h3, h4⟩
  | .alt l, b, P, Q, h0, hQ => by
    simp only [layX] at hQ ⊢
    have hat : (P ++ [none_])[P.length]? = some ⟨.empty, 0, []⟩ := by simp [none_]
    obtain ⟨fs, h1, h2, h3⟩ := layAlt_lang l P.length b (P ++ [none_]) Q [] (by simp) (by simp) hat (fun k h1 h2 => hQ k (by simp at h1; omega) h2)
    have hp : Q[P.length]? = some ⟨.empty, 0, fs⟩ := by
      rw [hQ P.length (Nat.le_refl _) (by have := (layAlt_keep l P.length b (P ++ [none_])).1; simp at this; omega)]; exact h1
    constructor
    · intro k s h
      obtain ⟨k', rfl, hh | hh⟩ := runN_at hp (by omega) h
      · obtain ⟨q, hq, hr⟩ := hh
        obtain ⟨r, hr1, hL⟩ := h2 q hq
        obtain ⟨s1, s2, k2, rfl, hm, hk, hr2⟩ := hL.1 _ _ hr
        exact ⟨s1, s2, k2, rfl, .alt l r s1 hr1 hm, by omega, hr2⟩
      · obtain ⟨c, s', _, hx, _⟩ := hh; cases hx
    · intro s1 s2 hm hb
      obtain ⟨r, hr, hm2⟩ := mt_alt_inv hm
      obtain ⟨f, hf, hL⟩ := h3 r hr
      obtain ⟨k, hk⟩ := hL.2 s1 s2 hm2 hb
      exact ⟨k + 1, .eps _ f k _ _ hp hf hk⟩
  | .star r, b, P, Q, h0, hQ => by
    simp only [layX] at hQ ⊢
    have hk := lay_keep r P.length (P ++ [none_])
    have hat : (layX r P.length (P ++ [none_])).2[P.length]? = some ⟨.empty, 0, []⟩ := by
      rw [hk.2 _ (by simp)]; simp [none_]
    have hp : Q[P.length]? = some ⟨.empty, 0, [b, (layX r P.length (P ++ [none_])).1]⟩ := by
      rw [hQ P.length (Nat.le_refl _) (by rw [setAlso_len]; have := hk.1; simp at this; omega), setAlso_at _ hat]
    refine star_run (by omega) hp (lay_lang r P.length (P ++ [none_]) Q (by simp) (fun k h1 h2 => ?_))
    simp at h1
    rw [hQ k (by omega) (by rw [setAlso_len]; exact h2), setAlso_ne _ (by omega)]
theorem layCat_lang : ∀ (l : List RX) (b : Nat) (P Q : List Pl), 0 < P.length → Agree Q (layCat l b P).2 P.length → LangL Q (layCat l b P).1 l b
  | [], b, P, Q, h0, hQ => ⟨fun k s h => ⟨[], s, k, rfl, .nil, Nat.le_refl _, h⟩, fun s1 s2 h hb => by rw [mtL_nil_inv h]; exact hb⟩
  | r :: l, b, P, Q, h0, hQ => by
    simp only [layCat] at hQ ⊢
    have k1 := layCat_keep l b P
    have k2 := lay_keep r (layCat l b P).1 (layCat l b P).2
    have h1 := layCat_lang l b P Q h0 (fun k h1 h2 => (hQ k h1 (by omega)).trans (k2.2 k h2))
    have h2 := lay_lang r (layCat l b P).1 (layCat l b P).2 Q (by omega) (fun k h1 h2 => hQ k (by omega) h2)
    constructor
    · intro k s h
      obtain ⟨s1, s2, k', rfl, hm, hk, hr⟩ := h2.1 k s h
      obtain ⟨s3, s4, k3, rfl, hm2, hk2, hr2⟩ := h1.1 _ _ hr
      exact ⟨s1 ++ s3, s4, k3, by simp, .cons r l s1 s3 hm hm2, by omega, hr2⟩
    · intro s1 s2 hm hb
      obtain ⟨s3, s4, rfl, h3, h4⟩ := mtL_cons_inv hm
      obtain ⟨k, hk⟩ := h2.2 s3 (s4 ++ s2) h3 (h1.2 s4 s2 h4 hb)
      exact ⟨k, by simpa using hk⟩
theorem layAlt_lang : ∀ (l : List RX) (a b : Nat) (P Q : List Pl) (A : List Nat), 0 < P.length → a < P.length → P[a]? = some ⟨.empty, 0, A⟩ → Agree Q (layAlt l a b P) P.length →
    ∃ fs, (layAlt l a b P)[a]? = some ⟨.empty, 0, A ++ fs⟩ ∧ (∀ f ∈ fs, ∃ r ∈ l, Lang Q f r b) ∧ (∀ r ∈ l, ∃ f ∈ fs, Lang Q f r b)
  | [], a, b, P, Q, A, h0, ha, hA, hQ => ⟨[], by rw [List.append_nil]; exact hA, by simp, by simp⟩
  | r :: l, a, b, P, Q, A, h0, ha, hA, hQ => by
    simp only [layAlt] at hQ ⊢
    have k1 := lay_keep r b P
    have k2 := layAlt_keep l a b (addAlso (layX r b P).2 a (layX r b P).1)
    rw [addAlso_len] at k2
    have hL := lay_lang r b P Q h0 (fun k h1 h2 => by rw [hQ k h1 (by omega), k2.2 k h2 (by omega), addAlso_ne _ (by omega)])
    have hA2 : (addAlso (layX r b P).2 a (layX r b P).1)[a]? = some ⟨.empty, 0, A ++ [(layX r b P).1]⟩ := by
      rw [addAlso_at _ (pl := ⟨.empty, 0, A⟩) (by rw [k1.2 a ha]; exact hA)]
    obtain ⟨fs, h1, h2, h3⟩ := layAlt_lang l a b (addAlso (layX r b P).2 a (layX r b P).1) Q (A ++ [(layX r b P).1]) (by rw [addAlso_len]; omega) (by rw [addAlso_len]; omega) hA2 (fun k h1 h2 => hQ k (by rw [addAlso_len] at h1; omega) h2)
    refine ⟨(layX r b P).1 :: fs, by rw [h1]; simp, ?_, ?_⟩
    · intro f hf
      simp at hf
      rcases hf with rfl | hf
      · exact ⟨r, by simp, hL⟩
      · obtain ⟨r', h4, h5⟩ := h2 f hf
        exact ⟨r', by simp [h4], h5⟩
    · intro r' hr'
      simp at hr'
      rcases hr' with rfl | hr'
      · exact ⟨_, by simp, hL⟩
      · obtain ⟨f, h4, h5⟩ := h3 r' hr'
        exact ⟨f, by simp [h4], h5⟩
end

/-- The places of a regex, from its end on. -/
def placesX (r : RX) : List Pl := (layX r 0 [none_]).2
def firstX (r : RX) : Nat := (layX r 0 [none_]).1
theorem places_zero (r : RX) : (placesX r)[0]? = some none_ := by
  unfold placesX; rw [(lay_keep r 0 [none_]).2 0 (by simp)]; rfl

/-- It is matched just where place 0 is come to. -/
theorem run_match (r : RX) (s : List UInt8) : (∃ k, RunN (placesX r) k (firstX r) s) ↔ Mt r s := by
  have hL := lay_lang r 0 [none_] (placesX r) (by simp) (fun k _ _ => rfl)
  have hz : ∀ k s, RunN (placesX r) k 0 s → s = [] := by
    intro k s h
    cases h with
    | stop => rfl
    | eps _ q k s pl h hq hr =>
      rw [places_zero] at h; obtain rfl := Option.some.inj h
      cases hq
    | byte _ k x s pl h hx hr =>
      rw [places_zero] at h; obtain rfl := Option.some.inj h
      cases hx
  constructor
  · rintro ⟨k, hk⟩
    obtain ⟨s1, s2, k', rfl, hm, _, hr⟩ := hL.1 k s hk
    rw [hz _ _ hr, List.append_nil]
    exact hm
  · intro hm
    obtain ⟨k, hk⟩ := hL.2 s [] hm ⟨0, .stop⟩
    exact ⟨k, by rw [List.append_nil] at hk; exact hk⟩

end Go.Proofs.X3

/- Plain mathematics: which places are come to by a text; how they are gathered. -/
namespace Go.Proofs.X3
set_option linter.unusedVariables false

inductive Eps (P : List Pl) : Nat → Nat → Prop
  | refl (p : Nat) : Eps P p p
  | step (p q r : Nat) (pl : Pl) (h : P[p]? = some pl) (hq : q ∈ pl.also) (hr : Eps P q r) : Eps P p r
theorem Eps.trans {P : List Pl} {a b c : Nat} (h : Eps P a b) (k : Eps P b c) : Eps P a c := by
  induction h with
  | refl => exact k
  | step p q r pl h hq hr ih => exact .step p q c pl h hq (ih k)

/-- The places that are come to by a text. -/
inductive Reach (P : List Pl) (f : Nat) : List UInt8 → Nat → Prop
  | start (q : Nat) (h : Eps P f q) : Reach P f [] q
  | step (s : List UInt8) (x : UInt8) (p q : Nat) (pl : Pl) (hp : Reach P f s p) (h : P[p]? = some pl) (hx : hasX pl.b x.toNat = true) (hq : Eps P pl.next q) : Reach P f (s ++ [x]) q

theorem Reach.eps {P : List Pl} {f : Nat} {s : List UInt8} {p q : Nat} (h : Reach P f s p) (k : Eps P p q) : Reach P f s q := by
  cases h with
  | start _ h => exact .start q (h.trans k)
  | step s x p' _ pl hp h hx hq => exact .step s x p' q pl hp h hx (hq.trans k)

theorem reach_of_run {P : List Pl} {f k p : Nat} {s : List UInt8} (h : RunN P k p s) : ∀ s0, Reach P f s0 p → Reach P f (s0 ++ s) 0 := by
  induction h with
  | stop => intro s0 h; rw [List.append_nil]; exact h
  | eps p q k s pl h hq hr ih => intro s0 h0; exact ih s0 (h0.eps (.step p q q pl h hq (.refl q)))
  | byte p k x s pl h hx hr ih =>
    intro s0 h0
    have := ih (s0 ++ [x]) (.step s0 x p pl.next pl h0 h hx (.refl _))
    simpa using this

theorem run_eps {P : List Pl} {p q : Nat} (h : Eps P p q) {s : List UInt8} (hr : ∃ k, RunN P k q s) : ∃ k, RunN P k p s := by
  induction h with
  | refl => exact hr
  | step p q r pl h hq _ ih => obtain ⟨k, hk⟩ := ih hr; exact ⟨k + 1, .eps p q k s pl h hq hk⟩
theorem run_of_reach {P : List Pl} {f : Nat} {s : List UInt8} {p : Nat} (h : Reach P f s p) : ∀ t, (∃ k, RunN P k p t) → ∃ k, RunN P k f (s ++ t) := by
  induction h with
  | start q h => intro t ht; exact run_eps h ht
  | step s x p q pl hp h hx hq ih =>
    intro t ht
    obtain ⟨k, hk⟩ := run_eps hq ht
    have := ih (x :: t) ⟨k + 1, .byte p k x t pl h hx hk⟩
    simpa using this

theorem reach_match (r : RX) (s : List UInt8) : Reach (placesX r) (firstX r) s 0 ↔ Mt r s := by
  rw [← run_match]
  constructor
  · intro h
    have := run_of_reach h [] ⟨0, .stop⟩
    rwa [List.append_nil] at this
  · rintro ⟨k, hk⟩
    exact reach_of_run hk [] (.start _ (.refl _))

/-! ### Bounds -/
def Bd (P : List Pl) (n : Nat) : Prop := ∀ pl ∈ P, pl.next < n ∧ ∀ q ∈ pl.also, q < n
theorem Bd.mono {P : List Pl} {n m : Nat} (h : Bd P n) (hm : n ≤ m) : Bd P m := fun pl hp => ⟨Nat.lt_of_lt_of_le (h pl hp).1 hm, fun q hq => Nat.lt_of_lt_of_le ((h pl hp).2 q hq) hm⟩
theorem Bd.app {P : List Pl} {n : Nat} (h : Bd P n) {pl : Pl} (h1 : pl.next < n) (h2 : ∀ q ∈ pl.also, q < n) : Bd (P ++ [pl]) n := by
  intro x hx
  simp at hx
  rcases hx with hx | rfl
  · exact h x hx
  · exact ⟨h1, h2⟩
theorem Bd.addAlso {P : List Pl} {n a f : Nat} (h : Bd P n) (hf : f < n) : Bd (addAlso P a f) n := by
  intro x hx
  obtain ⟨k, e⟩ := List.mem_iff_getElem?.1 hx
  by_cases hk : k = a
  · subst hk
    cases hP : P[k]? with
    | none => unfold X3.addAlso at e; rw [List.getElem?_modify, hP] at e; cases e
    | some y =>
      rw [addAlso_at P hP] at e
      obtain rfl := Option.some.inj e
      have := h y (List.mem_iff_getElem?.2 ⟨k, hP⟩)
      refine ⟨this.1, fun q hq => ?_⟩
      simp at hq
      rcases hq with hq | rfl
      · exact this.2 q hq
      · exact hf
  · rw [addAlso_ne P hk] at e
    exact h x (List.mem_iff_getElem?.2 ⟨k, e⟩)
theorem Bd.setAlso {P : List Pl} {n a : Nat} {l : List Nat} (h : Bd P n) (hl : ∀ q ∈ l, q < n) : Bd (setAlso P a l) n := by
  intro x hx
  obtain ⟨k, e⟩ := List.mem_iff_getElem?.1 hx
  by_cases hk : k = a
  · subst hk
    cases hP : P[k]? with
    | none => unfold X3.setAlso at e; rw [List.getElem?_modify, hP] at e; cases e
    | some y =>
      rw [setAlso_at P hP] at e
      obtain rfl := Option.some.inj e
      exact ⟨(h y (List.mem_iff_getElem?.2 ⟨k, hP⟩)).1, hl⟩
  · rw [setAlso_ne P hk] at e
    exact h x (List.mem_iff_getElem?.2 ⟨k, e⟩)

/-- All places, and all that are told by them. -/
def muL (P : List Pl) : Nat := (P.map fun pl => 1 + pl.also.length).sum
theorem muL_app (P : List Pl) (pl : Pl) : muL (P ++ [pl]) = muL P + (1 + pl.also.length) := by simp [muL]
theorem muL_add (P : List Pl) (a f : Nat) : muL (addAlso P a f) ≤ muL P + 1 := by
  unfold addAlso muL
  induction P generalizing a with
  | nil => simp
  | cons p P ih =>
    cases a with
    | zero => simp; omega
    | succ a => have := ih a; simp at this ⊢; omega
theorem muL_set (P : List Pl) (a : Nat) (l : List Nat) : muL (setAlso P a l) ≤ muL P + l.length := by
  unfold setAlso muL
  induction P generalizing a with
  | nil => simp
  | cons p P ih =>
    cases a with
    | zero => simp; omega
    | succ a => have := ih a; simp at this ⊢; omega

/-- What is laid is sound, and not too much. -/
structure Sound (P P' : List Pl) (i n : Nat) : Prop where
  bd : Bd P' P'.length
  lt : i < P'.length
  len : P'.length ≤ P.length + n
  mu : muL P' ≤ muL P + (4 * n - 1)

mutual
theorem lay_sound : ∀ (r : RX) (b : Nat) (P : List Pl), Bd P P.length → b < P.length → Sound P (layX r b P).2 (layX r b P).1 r.size
  | .empty, b, P, h, hb => ⟨h, hb, by simp [layX], by simp [layX]⟩
  | .bytes x y z u, b, P, h, hb => by
    simp only [layX, RX.size]
    exact ⟨(h.mono (by simp)).app (by simp; omega) (by simp), by simp, by simp, by rw [muL_app]; simp⟩
  | .cat l, b, P, h, hb => by
    have h1 := layCat_sound l b P h hb
    simp only [layX, RX.size]
    exact ⟨h1.1, h1.2.1, by have := h1.2.2.1; omega, by have := h1.2.2.2; omega⟩
  | .alt l, b, P, h, hb => by
    have h1 := layAlt_sound l P.length b (P ++ [none_]) ((h.mono (by simp)).app (by simp [none_]) (by simp [none_])) (by simp; omega)
    have k1 := (layAlt_keep l P.length b (P ++ [none_])).1
    simp only [layX, RX.size]
    have e : muL (P ++ [none_]) = muL P + 1 := by rw [muL_app]; rfl
    simp at k1
    exact ⟨h1.1, by omega, by have := h1.2.1; simp at this; omega, by have := h1.2.2; omega⟩
  | .star r, b, P, h, hb => by
    have h1 := lay_sound r P.length (P ++ [none_]) ((h.mono (by simp)).app (by simp [none_]) (by simp [none_])) (by simp)
    have k1 := (lay_keep r P.length (P ++ [none_])).1
    simp only [layX, RX.size]
    have e : muL (P ++ [none_]) = muL P + 1 := by rw [muL_app]; rfl
    have h2 := muL_set (layX r P.length (P ++ [none_])).2 P.length [b, (layX r P.length (P ++ [none_])).1]
    simp at k1 h2
    refine ⟨?_, by rw [setAlso_len]; omega, by rw [setAlso_len]; have := h1.len; simp at this; omega, by have := h1.mu; omega⟩
    rw [setAlso_len]
    refine h1.bd.setAlso fun q hq => ?_
    simp at hq
    rcases hq with rfl | rfl
    · omega
    · exact h1.lt
theorem layCat_sound : ∀ (l : List RX) (b : Nat) (P : List Pl), Bd P P.length → b < P.length → Bd (layCat l b P).2 (layCat l b P).2.length ∧ (layCat l b P).1 < (layCat l b P).2.length ∧ (layCat l b P).2.length ≤ P.length + sizeL l ∧ muL (layCat l b P).2 ≤ muL P + 4 * sizeL l
  | [], b, P, h, hb => ⟨h, hb, by simp [layCat], by simp [layCat]⟩
  | r :: l, b, P, h, hb => by
    have h1 := layCat_sound l b P h hb
    have h2 := lay_sound r (layCat l b P).1 (layCat l b P).2 h1.1 h1.2.1
    simp only [layCat, sizeL]
    exact ⟨h2.bd, h2.lt, by have := h2.len; omega, by have := h2.mu; omega⟩
theorem layAlt_sound : ∀ (l : List RX) (a b : Nat) (P : List Pl), Bd P P.length → b < P.length → Bd (layAlt l a b P) (layAlt l a b P).length ∧ (layAlt l a b P).length ≤ P.length + sizeL l ∧ muL (layAlt l a b P) ≤ muL P + 4 * sizeL l
  | [], a, b, P, h, hb => ⟨h, by simp [layAlt], by simp [layAlt]⟩
  | r :: l, a, b, P, h, hb => by
    have h1 := lay_sound r b P h hb
    have h2 := layAlt_sound l a b (addAlso (layX r b P).2 a (layX r b P).1) (by rw [addAlso_len]; exact h1.bd.addAlso h1.lt) (by rw [addAlso_len]; have := (lay_keep r b P).1; omega)
    have h3 := muL_add (layX r b P).2 a (layX r b P).1
    rw [addAlso_len] at h2
    simp only [layAlt, sizeL]
    have h4 : 1 ≤ r.size := by cases r <;> simp only [RX.size] <;> omega
    exact ⟨h2.1, by have := h1.len; omega, by have := h1.mu; omega⟩
end

theorem sizeL_le_drop (l : List RX) (k : Nat) (hk : k < l.length) : l[k].size + sizeL (l.drop (k + 1)) ≤ sizeL l := by
  induction l generalizing k with
  | nil => simp at hk
  | cons r l ih =>
    cases k with
    | zero => simp [sizeL]
    | succ k => have := ih k (by simpa using hk); simp only [List.getElem_cons_succ, List.drop_succ_cons, sizeL]; omega

theorem also_le_mu {P : List Pl} {k : Nat} {pl : Pl} (h : P[k]? = some pl) : pl.also.length ≤ muL P := by
  unfold muL
  induction P generalizing k with
  | nil => cases h
  | cons p P ih =>
    cases k with
    | zero => simp at h; subst h; simp; omega
    | succ k => have := ih (by simpa using h); simp at this ⊢; omega
theorem modify_also {P : List Pl} {k f : Nat} {pl : Pl} (h : P[k]? = some pl) : (P.modify k fun p => { p with also := pl.also ++ [f] }) = addAlso P k f := by
  unfold addAlso
  apply List.ext_getElem?
  intro i
  rw [List.getElem?_modify, List.getElem?_modify]
  by_cases e : k = i
  · subst e; rw [h]; simp
  · simp only [if_neg e]

/-! ### Gathering -/
/-- What a row of marks has: by v those places that are gathered; the rest is of elder texts. -/
structure Gath (P : List Pl) (T : Nat → Prop) (v : Nat) (seen : List Nat) (at_ more : List Nat) : Prop where
  len : seen.length = P.length
  old : ∀ (p x : Nat), seen[p]? = some x → x ≤ v
  moreT : ∀ q ∈ more, T q
  marksT : ∀ p : Nat, seen[p]? = some v → T p
  closed : ∀ (p : Nat) (pl : Pl), seen[p]? = some v → P[p]? = some pl → ∀ q ∈ pl.also, seen[q]? = some v ∨ q ∈ more
  iff_ : ∀ p : Nat, p ∈ at_ ↔ seen[p]? = some v

/-- What is left to be gathered. -/
def muS : List Pl → List Nat → Nat → Nat
  | p :: P, x :: s, v => (if x = v then 0 else 1 + p.also.length) + muS P s v
  | _, _, _ => 0
theorem muS_le (P : List Pl) : ∀ (s : List Nat) (v : Nat), muS P s v ≤ muL P := by
  induction P with
  | nil => intro s v; cases s <;> simp [muS, muL]
  | cons p P ih =>
    intro s v
    cases s with
    | nil => simp [muS]
    | cons x s =>
      have := ih s v
      simp only [muS, muL, List.map_cons, List.sum_cons] at *
      split <;> omega
theorem muS_set (P : List Pl) : ∀ (s : List Nat) (v k : Nat) (pl : Pl), P[k]? = some pl → s.length = P.length → s[k]? ≠ some v → muS P (s.set k v) v + (1 + pl.also.length) = muS P s v := by
  induction P with
  | nil => intro s v k pl h; cases h
  | cons p P ih =>
    intro s v k pl h hl hne
    cases s with
    | nil => simp at hl
    | cons x s =>
      cases k with
      | zero =>
        simp at h hne
        subst h
        simp only [List.set_cons_zero, muS, if_true, if_neg hne]
        omega
      | succ k =>
        have := ih s v k pl (by simpa using h) (by simpa using hl) (by simpa using hne)
        simp only [List.set_cons_succ, muS]
        omega

theorem Gath.pop {P : List Pl} {T : Nat → Prop} {v : Nat} {seen at_ m : List Nat} {p : Nat} (h : Gath P T v seen at_ (m ++ [p])) (hp : seen[p]? = some v) : Gath P T v seen at_ m :=
  ⟨h.len, h.old, fun q hq => h.moreT q (by simp [hq]), h.marksT, fun p' pl h1 h2 q hq => by
    rcases h.closed p' pl h1 h2 q hq with h3 | h3
    · exact .inl h3
    · simp at h3
      rcases h3 with h3 | rfl
      · exact .inr h3
      · exact .inl hp, h.iff_⟩
theorem Gath.mark {P : List Pl} {T : Nat → Prop} {v : Nat} {seen at_ m : List Nat} {p : Nat} {pl : Pl} (hT : ∀ p pl, T p → P[p]? = some pl → ∀ q ∈ pl.also, T q)
    (h : Gath P T v seen at_ (m ++ [p])) (hpl : P[p]? = some pl) (hp : seen[p]? ≠ some v) : Gath P T v (seen.set p v) (at_ ++ [p]) (m ++ pl.also) := by
  have hlt : p < seen.length := by rw [h.len]; exact (List.getElem?_eq_some_iff.1 hpl).1
  have hs : ∀ q, (seen.set p v)[q]? = some v ↔ seen[q]? = some v ∨ q = p := by
    intro q
    by_cases e : q = p
    · subst e; simp [List.getElem?_set_self hlt]
    · rw [List.getElem?_set_ne (Ne.symm e)]; simp [e]
  have hTp : T p := h.moreT p (by simp)
  refine ⟨by simp [h.len], ?_, ?_, ?_, ?_, ?_⟩
  · intro q x hq
    by_cases e : q = p
    · subst e; rw [List.getElem?_set_self hlt] at hq; obtain rfl := Option.some.inj hq; exact Nat.le_refl _
    · rw [List.getElem?_set_ne (Ne.symm e)] at hq; exact h.old q x hq
  · intro q hq
    simp at hq
    rcases hq with hq | hq
    · exact h.moreT q (by simp [hq])
    · exact hT p pl hTp hpl q hq
  · intro q hq
    rcases (hs q).1 hq with h1 | rfl
    · exact h.marksT q h1
    · exact hTp
  · intro p' pl' h1 h2 q hq
    rcases (hs p').1 h1 with h3 | rfl
    · rcases h.closed p' pl' h3 h2 q hq with h4 | h4
      · exact .inl ((hs q).2 (.inl h4))
      · simp at h4
        rcases h4 with h4 | rfl
        · exact .inr (by simp [h4])
        · exact .inl ((hs q).2 (.inr rfl))
    · rw [hpl] at h2; obtain rfl := Option.some.inj h2
      exact .inr (by simp [hq])
  · intro q
    rw [hs q, ← h.iff_ q]
    simp
theorem Gath.more {P : List Pl} {T : Nat → Prop} {v : Nat} {seen at_ : List Nat} {p : Nat} (h : Gath P T v seen at_ []) (hp : T p) : Gath P T v seen at_ [p] :=
  ⟨h.len, h.old, fun q hq => by simp at hq; subst hq; exact hp, h.marksT, fun p' pl h1 h2 q hq => .inl (by rcases h.closed p' pl h1 h2 q hq with h3 | h3; exact h3; cases h3), h.iff_⟩
/-- For a text that is longer by one nothing is gathered yet. -/
theorem gath_new {P : List Pl} {T : Nat → Prop} {v : Nat} {seen : List Nat} (hl : seen.length = P.length) (ho : ∀ (p x : Nat), seen[p]? = some x → x < v) : Gath P T v seen [] [] := by
  have hn : ∀ p : Nat, seen[p]? = some v → False := fun p h => absurd (ho p v h) (Nat.lt_irrefl _)
  exact ⟨hl, fun p x h => Nat.le_of_lt (ho p x h), by simp, fun p h => (hn p h).elim, fun p pl h => (hn p h).elim, fun p => ⟨by simp, fun h => (hn p h).elim⟩⟩

theorem reach_also {P : List Pl} {f : Nat} {s : List UInt8} : ∀ p pl, Reach P f s p → P[p]? = some pl → ∀ q ∈ pl.also, Reach P f s q :=
  fun p pl h hp q hq => h.eps (.step p q q pl hp hq (.refl q))

/-- What is gathered is closed. -/
theorem gath_eps {P : List Pl} {T : Nat → Prop} {v : Nat} {seen at_ : List Nat} (h : Gath P T v seen at_ []) {p q : Nat} (hp : seen[p]? = some v) (he : Eps P p q) : seen[q]? = some v := by
  induction he with
  | refl => exact hp
  | step p q r pl hpl hq _ ih =>
    rcases h.closed p pl hp hpl q hq with h1 | h1
    · exact ih h1
    · cases h1
theorem gath_start {P : List Pl} {f v : Nat} {seen at_ : List Nat} (h : Gath P (Reach P f []) v seen at_ []) (hf : seen[f]? = some v) : ∀ q, q ∈ at_ ↔ Reach P f [] q := by
  intro q
  rw [h.iff_]
  refine ⟨h.marksT q, fun hr => ?_⟩
  generalize hs : ([] : List UInt8) = s at hr
  cases hr with
  | start _ he => exact gath_eps h hf he
  | step s x p _ pl hp h1 hx hq => simp at hs
theorem gath_next {P : List Pl} {f v : Nat} {seen A at_ : List Nat} {s : List UInt8} {x : UInt8} (hA : ∀ q, q ∈ A ↔ Reach P f s q) (h : Gath P (Reach P f (s ++ [x])) v seen at_ [])
    (hall : ∀ p ∈ A, ∀ pl, P[p]? = some pl → hasX pl.b x.toNat = true → seen[pl.next]? = some v) : ∀ q, q ∈ at_ ↔ Reach P f (s ++ [x]) q := by
  intro q
  rw [h.iff_]
  refine ⟨h.marksT q, fun hr => ?_⟩
  generalize hs : s ++ [x] = s' at hr
  cases hr with
  | start _ he => simp at hs
  | step s2 x2 p _ pl hp h1 hx hq =>
    have e := List.append_inj' hs rfl
    obtain ⟨rfl, e2⟩ := e
    injection e2 with e3
    subst e3
    exact gath_eps h (hall p ((hA p).2 hp) pl h1 hx) hq

end Go.Proofs.X3
