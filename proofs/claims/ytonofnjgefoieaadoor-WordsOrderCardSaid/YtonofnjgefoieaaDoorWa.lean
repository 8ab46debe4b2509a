/- Plain mathematics of words: what a text's words are, by recursion on its bytes. -/
import Derived.Laws.RangeAny
set_option linter.unusedVariables false
namespace Go.Proofs.W8
open Go

/-- A letter, or an underline. -/
def lt (b : UInt8) : Bool := decide (97 ≤ b.toNat ∧ b.toNat ≤ 122) || decide (65 ≤ b.toNat ∧ b.toNat ≤ 90) || decide (b.toNat = 95)
/-- A digit. -/
def dg (b : UInt8) : Bool := decide (48 ≤ b.toNat ∧ b.toNat ≤ 57)
def nm (b : UInt8) : Bool := lt b || dg b
def mk (b : UInt8) : Bool := decide (b.toNat = 61 ∨ b.toNat = 40 ∨ b.toNat = 41 ∨ b.toNat = 59 ∨ b.toNat = 44)
def no10 (b : UInt8) : Bool := decide (b.toNat ≠ 10)

/-- How many bytes it begins with that are all of a kind. -/
def runL (p : UInt8 → Bool) : List UInt8 → Nat
  | [] => 0
  | b :: l => if p b then runL p l + 1 else 0

theorem runL_le (p : UInt8 → Bool) : ∀ l, runL p l ≤ l.length
  | [] => Nat.le_refl _
  | b :: l => by
    unfold runL; split
    · have := runL_le p l; simp; omega
    · simp

/-- From the byte behind '/' on: the regex's text, and how many bytes it takes with its end. -/
def rx : List UInt8 → Option (List UInt8 × Nat)
  | [] => none
  | [b] => if b.toNat = 47 then some ([], 1) else none
  | b :: c :: l =>
    if b.toNat = 10 then none
    else if b.toNat = 47 then some ([], 1)
    else if b.toNat = 92 then
      (if c.toNat = 47 then (rx l).map (fun x => (47 :: x.1, x.2 + 2))
       else if c.toNat = 10 then none
       else (rx l).map (fun x => (92 :: c :: x.1, x.2 + 2)))
    else (rx (c :: l)).map (fun x => (b :: x.1, x.2 + 1))

/-- The value of digits. -/
def numL (l : List UInt8) : Nat := l.foldl (fun n b => n * 10 + (b.toNat - 48)) 0

/-- One word, as it is read. -/
structure Wd where
  kind : Nat
  text : List UInt8
  n : Nat
  at_ : Nat
deriving DecidableEq

inductive St where
  | skip (k : Nat)
  | nl
  | wd (kind : Nat) (text : List UInt8) (n : Nat) (long : Nat)
  | bad (e : Nat)
deriving DecidableEq

def rd (l : List UInt8) : St :=
  match l with
  | [] => .bad 5
  | b :: t =>
    if lt b then (if 32 < runL nm l then .bad 4 else .wd 0 (l.take (runL nm l)) 0 (runL nm l))
    else if dg b then (if 9 < runL dg l then .bad 4 else .wd 1 (l.take (runL dg l)) (numL (l.take (runL dg l))) (runL dg l))
    else if mk b then .wd 2 [b] 0 1
    else if b.toNat = 47 then
      (match rx t with
      | some x => .wd 3 x.1 0 (x.2 + 1)
      | none => .bad 5)
    else .bad 5

def stp (l : List UInt8) : St :=
  match l with
  | [] => .bad 5
  | b :: t =>
    if b.toNat = 32 ∨ b.toNat = 9 ∨ b.toNat = 13 then .skip 1
    else if b.toNat = 35 then .skip (runL no10 l)
    else if b.toNat = 10 then .nl
    else rd l

/-- An End behind, unless there is one, or there is nothing. -/
def enL (l : List Wd) (at_ : Nat) : List Wd :=
  match l.getLast? with
  | none => l
  | some x => if x.kind = 4 then l else l ++ [⟨4, [], 0, at_⟩]

def wgo : Nat → List UInt8 → Nat → List Wd → List Wd × Nat × Nat
  | 0, _, a, acc => (enL acc a, 0, 0)
  | f + 1, l, a, acc =>
    if l = [] then (enL acc a, 0, 0)
    else match stp l with
      | .skip k => wgo f (l.drop k) (a + k) acc
      | .nl => wgo f (l.drop 1) (a + 1) (enL acc a)
      | .wd k t n long => wgo f (l.drop long) (a + long) (acc ++ [⟨k, t, n, a⟩])
      | .bad e => (acc, e, a)

/-- The words of a text, the error, and its place. -/
def words (l : List UInt8) : List Wd × Nat × Nat := if 20000 < l.length then ([], 4, 0) else wgo l.length l 0 []

/-- From a place on, with words ahead, it comes to this. -/
inductive Wr : List UInt8 → Nat → List Wd → List Wd × Nat × Nat → Prop where
  | done (a : Nat) (acc : List Wd) : Wr [] a acc (enL acc a, 0, 0)
  | skip (l : List UInt8) (a : Nat) (acc : List Wd) (k : Nat) (r) (hl : l ≠ []) (h : stp l = .skip k) (h1 : Wr (l.drop k) (a + k) acc r) : Wr l a acc r
  | nl (l : List UInt8) (a : Nat) (acc : List Wd) (r) (hl : l ≠ []) (h : stp l = .nl) (h1 : Wr (l.drop 1) (a + 1) (enL acc a) r) : Wr l a acc r
  | wd (l : List UInt8) (a : Nat) (acc : List Wd) (k : Nat) (t : List UInt8) (n long : Nat) (r) (hl : l ≠ []) (h : stp l = .wd k t n long) (h1 : Wr (l.drop long) (a + long) (acc ++ [⟨k, t, n, a⟩]) r) : Wr l a acc r
  | bad (l : List UInt8) (a : Nat) (acc : List Wd) (e : Nat) (hl : l ≠ []) (h : stp l = .bad e) : Wr l a acc (acc, e, a)

theorem rx_le : ∀ l t n, rx l = some (t, n) → 1 ≤ n ∧ n ≤ l.length := by
  intro l
  induction l using rx.induct with
  | case1 => intro t n h; simp [rx] at h
  | case2 b hb => intro t n h; simp [rx, hb] at h; obtain ⟨_, rfl⟩ := h; simp
  | case3 b hb => intro t n h; simp [rx, hb] at h
  | case4 b c l h1 => intro t n h; simp [rx, h1] at h
  | case5 b c l h1 h2 => intro t n h; simp [rx, h2] at h; obtain ⟨_, rfl⟩ := h; simp
  | case6 b c l h1 h2 h3 h4 ih =>
    intro t n h; simp [rx, h3, h4] at h
    obtain ⟨a, m, hm, _, rfl⟩ := h
    have := ih a m hm; simp; omega
  | case7 b c l h1 h2 h3 h4 h5 => intro t n h; simp [rx, h3, h5] at h
  | case8 b c l h1 h2 h3 h4 h5 ih =>
    intro t n h; simp [rx, h3, h4, h5] at h
    obtain ⟨a, m, hm, _, rfl⟩ := h
    have := ih a m hm; simp; omega
  | case9 b c l h1 h2 h3 ih =>
    intro t n h; simp [rx, h1, h2, h3] at h
    obtain ⟨a, m, hm, _, rfl⟩ := h
    have := ih a m hm; simp at this ⊢; omega

theorem runL_pos {p : UInt8 → Bool} {b : UInt8} {l : List UInt8} (h : p b = true) : 1 ≤ runL p (b :: l) := by simp [runL, h]

theorem rd_wd {l : List UInt8} {k n long : Nat} {t : List UInt8} (h : rd l = .wd k t n long) : 1 ≤ long ∧ long ≤ l.length := by
  unfold rd at h
  split at h
  · cases h
  · rename_i b l'
    split at h
    · rename_i hb
      split at h
      · cases h
      · injection h with e1 e2 e3 e4
        subst e4; exact ⟨runL_pos (by simp [nm, hb]), runL_le _ _⟩
    · split at h
      · rename_i hb
        split at h
        · cases h
        · injection h with e1 e2 e3 e4
          subst e4; exact ⟨runL_pos hb, runL_le _ _⟩
      · split at h
        · injection h with e1 e2 e3 e4
          subst e4; simp
        · split at h
          · split at h
            · rename_i x hx
              injection h with e1 e2 e3 e4
              subst e4
              have := rx_le _ x.1 x.2 hx
              simp; omega
            · cases h
          · cases h

theorem rd_not {l : List UInt8} : (∀ k, rd l ≠ .skip k) ∧ rd l ≠ .nl := by
  unfold rd
  constructor
  · intro k
    repeat' split
    all_goals simp
  · repeat' split
    all_goals simp

theorem stp_skip {l : List UInt8} {k : Nat} (h : stp l = .skip k) : 1 ≤ k ∧ k ≤ l.length := by
  unfold stp at h
  split at h
  · cases h
  · rename_i b l'
    split at h
    · injection h with e; subst e; simp
    · split at h
      · rename_i hb
        injection h with e; subst e
        exact ⟨runL_pos (by simp [no10, hb]), runL_le _ _⟩
      · split at h
        · cases h
        · exact absurd h (rd_not.1 k)

theorem stp_wd {l : List UInt8} {k n long : Nat} {t : List UInt8} (h : stp l = .wd k t n long) : 1 ≤ long ∧ long ≤ l.length := by
  unfold stp at h
  repeat' split at h
  all_goals first | cases h | exact rd_wd h

theorem wgo_Wr : ∀ (f : Nat) (l : List UInt8) (a : Nat) (acc : List Wd), l.length ≤ f → Wr l a acc (wgo f l a acc) := by
  intro f
  induction f with
  | zero =>
    intro l a acc h
    have : l = [] := List.eq_nil_of_length_eq_zero (by omega)
    subst this; exact .done a acc
  | succ f ih =>
    intro l a acc h
    unfold wgo
    split
    · rename_i e; subst e; exact .done a acc
    · rename_i e
      have hp : 1 ≤ l.length := by rcases l with _ | ⟨b, t⟩; exact absurd rfl e; simp
      split
      · rename_i k hk
        have := stp_skip hk
        exact .skip l a acc k _ e hk (ih _ _ _ (by simp; omega))
      · rename_i hk
        exact .nl l a acc _ e hk (ih _ _ _ (by simp; omega))
      · rename_i k t n long hk
        have := stp_wd hk
        exact .wd l a acc k t n long _ e hk (ih _ _ _ (by simp; omega))
      · rename_i k hk
        exact .bad l a acc k e hk

theorem Wr.same {l : List UInt8} {a : Nat} {acc : List Wd} {r r' : List Wd × Nat × Nat} (h : Wr l a acc r) (h' : Wr l a acc r') : r = r' := by
  induction h with
  | done a acc => cases h' with
    | done => rfl
    | skip _ _ _ _ _ hl => exact absurd rfl hl
    | nl _ _ _ _ hl => exact absurd rfl hl
    | wd _ _ _ _ _ _ _ _ hl => exact absurd rfl hl
    | bad _ _ _ _ hl => exact absurd rfl hl
  | skip l a acc k r hl h h1 ih => cases h' with
    | done => exact absurd rfl hl
    | skip _ _ _ k' _ _ h2 h3 => rw [h] at h2; injection h2 with e; subst e; exact ih h3
    | nl _ _ _ _ _ h2 => rw [h] at h2; cases h2
    | wd _ _ _ _ _ _ _ _ _ h2 => rw [h] at h2; cases h2
    | bad _ _ _ _ _ h2 => rw [h] at h2; cases h2
  | nl l a acc r hl h h1 ih => cases h' with
    | done => exact absurd rfl hl
    | skip _ _ _ k' _ _ h2 h3 => rw [h] at h2; cases h2
    | nl _ _ _ _ _ h2 h3 => exact ih h3
    | wd _ _ _ _ _ _ _ _ _ h2 => rw [h] at h2; cases h2
    | bad _ _ _ _ _ h2 => rw [h] at h2; cases h2
  | wd l a acc k t n long r hl h h1 ih => cases h' with
    | done => exact absurd rfl hl
    | skip _ _ _ k' _ _ h2 h3 => rw [h] at h2; cases h2
    | nl _ _ _ _ _ h2 h3 => rw [h] at h2; cases h2
    | wd _ _ _ _ _ _ _ _ _ h2 h3 => rw [h] at h2; injection h2 with e1 e2 e3 e4; subst e1 e2 e3 e4; exact ih h3
    | bad _ _ _ _ _ h2 => rw [h] at h2; cases h2
  | bad l a acc e hl h => cases h' with
    | done => exact absurd rfl hl
    | skip _ _ _ k' _ _ h2 h3 => rw [h] at h2; cases h2
    | nl _ _ _ _ _ h2 h3 => rw [h] at h2; cases h2
    | wd _ _ _ _ _ _ _ _ _ h2 h3 => rw [h] at h2; cases h2
    | bad _ _ _ _ _ h2 => rw [h] at h2; injection h2 with e; subst e; rfl

theorem Wr.words {l : List UInt8} {r : List Wd × Nat × Nat} (h : Wr l 0 [] r) (hl : l.length ≤ 20000) : W8.words l = r := by
  unfold W8.words
  rw [if_neg (by omega)]
  exact (wgo_Wr l.length l 0 [] (Nat.le_refl _)).same h
theorem words_Wr {l : List UInt8} (hl : l.length ≤ 20000) : Wr l 0 [] (W8.words l) := by
  unfold W8.words
  rw [if_neg (by omega)]
  exact wgo_Wr l.length l 0 [] (Nat.le_refl _)

end Go.Proofs.W8
