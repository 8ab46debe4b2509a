/- No error of a text is number 0. -/
import Derived.Test.YtndefngkkikkeaaXd
set_option linter.unusedVariables false
set_option linter.unusedSimpArgs false
namespace Go.Proofs.X3
def okE {α : Type} (x : PR α) : Prop := ∀ e, x = .err e → e ≠ 0
theorem okE_ok {α : Type} {a : α} {i : Nat} : okE (PR.ok a i) := fun e h => by cases h
theorem okE_err {α : Type} {e : Nat} (h : e ≠ 0) : okE (PR.err (α := α) e) := fun e' h' => by injection h' with h'; subst h'; exact h
theorem okE_bind {α β : Type} {x : PR α} {f : α → Nat → PR β} (h : okE x) (hf : ∀ a i, okE (f a i)) : okE (x.bind f) := by
  cases x with
  | err e => exact okE_err (h e rfl)
  | ok a i => exact hf a i
theorem okE_ite {α : Type} {c : Prop} [Decidable c] {x y : PR α} (hx : okE x) (hy : okE y) : okE (if c then x else y) := by
  split
  · exact hx
  · exact hy
theorem take_e (s : List UInt8) (i : Nat) : okE (take s i) := by
  unfold take
  split
  · exact okE_err (by decide)
  · exact okE_ok
theorem digit_e (s : List UInt8) (i : Nat) : okE (digitX s i) :=
  okE_bind (take_e s i) fun b j => okE_ite okE_ok (okE_ite okE_ok (okE_err (by decide)))
theorem esc_e (s : List UInt8) (i : Nat) : okE (escX s i) :=
  okE_bind (take_e s i) fun b j => okE_ite okE_ok (okE_ite okE_ok (okE_ite okE_ok (okE_ite okE_ok (okE_ite (okE_bind (digit_e s j) fun h k => okE_bind (digit_e s k) fun l m => okE_ok) (okE_ite (okE_err (by decide)) okE_ok)))))
theorem itemByte_e (s : List UInt8) (i : Nat) : okE (itemByte s i) :=
  okE_bind (take_e s i) fun b j => okE_ite (okE_err (by decide)) (okE_ite (esc_e s j) okE_ok)
theorem item_e (s : List UInt8) (i : Nat) : okE (itemX s i) :=
  okE_bind (itemByte_e s i) fun lo j => okE_ite (okE_bind (itemByte_e s _) fun hi k => okE_ite (okE_err (by decide)) okE_ok) okE_ok
theorem itemsL_e (s : List UInt8) : ∀ f i acc, okE (itemsL s f i acc)
  | 0, i, acc => okE_err (by decide)
  | f + 1, i, acc => by
    unfold itemsL
    exact okE_ite okE_ok (okE_bind (item_e s i) fun r j => itemsL_e s f j _)
theorem items_e (s : List UInt8) (i : Nat) : okE (itemsX s i) :=
  okE_ite (okE_bind (itemsL_e s _ _ _) fun r j => okE_ok) (itemsL_e s _ _ _)
theorem sized_e (r : RX) (i : Nat) : okE (sizedX r i) := okE_ite (okE_err (by decide)) okE_ok
theorem atom_e {W : Nat → PR RX} (hW : ∀ i, okE (W i)) (s : List UInt8) (i : Nat) : okE (atomX W s i) :=
  okE_bind (take_e s i) fun b j => okE_ite (okE_bind (hW j) fun r k => okE_bind (take_e s k) fun c m => okE_ite okE_ok (okE_err (by decide)))
    (okE_ite (items_e s j) (okE_ite okE_ok (okE_ite (okE_bind (esc_e s j) fun c k => okE_ok) (okE_ite (okE_err (by decide)) okE_ok))))
theorem post_e (s : List UInt8) : ∀ f i r, okE (postX s f i r)
  | 0, i, r => okE_err (by decide)
  | f + 1, i, r => by
    unfold postX
    exact okE_ite (okE_bind (sized_e _ _) fun r j => post_e s f j r) (okE_ite (okE_bind (sized_e _ _) fun r j => post_e s f j r) (okE_ite (okE_bind (sized_e _ _) fun r j => post_e s f j r) okE_ok))
theorem piece_e {W : Nat → PR RX} (hW : ∀ i, okE (W i)) (s : List UInt8) (i : Nat) : okE (pieceX W s i) :=
  okE_bind (atom_e hW s i) fun r j => okE_bind (sized_e r j) fun r j => post_e s _ j r
theorem wayL_e {W : Nat → PR RX} (hW : ∀ i, okE (W i)) (s : List UInt8) : ∀ f i l, okE (wayL W s f i l)
  | 0, i, l => okE_err (by decide)
  | f + 1, i, l => by
    unfold wayL
    exact okE_ite okE_ok (okE_bind (piece_e hW s i) fun r j => wayL_e hW s f j _)
theorem waysL_e {W : Nat → PR RX} (hW : ∀ i, okE (W i)) (s : List UInt8) : ∀ f i l, okE (waysL W s f i l)
  | 0, i, l => okE_err (by decide)
  | f + 1, i, l => by
    unfold waysL
    exact okE_bind (okE_bind (wayL_e hW s _ i []) fun l j => okE_ok) fun r j => okE_ite (waysL_e hW s f _ _) okE_ok
theorem ways_e (s : List UInt8) : ∀ f i, okE (waysX s f i)
  | 0, i => okE_err (by decide)
  | f + 1, i => by
    unfold waysX
    exact okE_bind (waysL_e (ways_e s f) s _ i []) fun l j => okE_ok
theorem parse_e {s : List UInt8} {c : Nat} (h : parseX s = .inl c) : c ≠ 0 := by
  unfold parseX at h
  split at h
  · injection h with h; omega
  · split at h
    · rename_i e he
      injection h with h
      subst h
      exact ways_e s _ _ _ he
    · split at h
      · injection h with h; omega
      · split at h
        · injection h with h; omega
        · cases h
end Go.Proofs.X3
