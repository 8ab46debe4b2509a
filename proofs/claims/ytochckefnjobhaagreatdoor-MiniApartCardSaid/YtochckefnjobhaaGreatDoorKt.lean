/- What tells a state apart, as a text: plain mathematics. -/
import Derived.Test.YtochckefnjobhaaGreatDoorKa
import Derived.Test.YtochckefnjobhaaGreatDoorKl
namespace Go.Proofs.YtochckefnjobhaaGreatDoor
open Go Go.RowKit Go.Lib
open X5 (Aut)
set_option linter.unusedVariables false
def numD : Nat → Nat → List UInt8
 | 0, _ => []
 | k + 1, t => UInt8.ofNat (t % 256) :: numD k (t / 256)
theorem numD_len : ∀ k t, (numD k t).length = k
 | 0, _ => rfl
 | k + 1, t => by rw [numD, List.length_cons, numD_len k]
theorem numD_snoc : ∀ k t, numD (k + 1) t = numD k t ++ [UInt8.ofNat (t / 256 ^ k % 256)]
 | 0, t => by simp [numD]
 | k + 1, t => by
  rw [numD, numD_snoc k (t / 256), numD, List.cons_append, Nat.div_div_eq_div_mul, Nat.pow_succ', Nat.mul_comm]
theorem numD_inj : ∀ {k t s : Nat}, t < 256 ^ k → s < 256 ^ k → numD k t = numD k s → t = s
 | 0, t, s, h1, h2, _ => by simp at h1 h2; omega
 | k + 1, t, s, h1, h2, h => by
  rw [numD, numD] at h
  injection h with a b
  rw [Nat.pow_succ] at h1 h2
  have := numD_inj (k := k) (t := t / 256) (s := s / 256) (by omega) (by omega) b
  have e : (UInt8.ofNat (t % 256)).toNat = (UInt8.ofNat (s % 256)).toNat := by rw [a]
  rw [UInt8.toNat_ofNat', UInt8.toNat_ofNat'] at e
  omega
abbrev numsT (l : List Int) : List UInt8 := l.flatMap num4
theorem numsT_len (l : List Int) : (numsT l).length = 4 * l.length := by
 induction l with
 | nil => rfl
 | cons x l ih =>
  have e : numsT (x :: l) = num4 x ++ numsT l := List.flatMap_cons
  rw [e, List.length_append, ih, num4_len, List.length_cons]; omega
theorem numsT_inj : ∀ {l m : List Int}, l.length = m.length → (∀ x ∈ l, -1 ≤ x ∧ x < 2147483648) → (∀ x ∈ m, -1 ≤ x ∧ x < 2147483648) → numsT l = numsT m → l = m
 | [], [], _, _, _, _ => rfl
 | x :: l, y :: m, hl, h1, h2, h => by
  rw [numsT, numsT, List.flatMap_cons, List.flatMap_cons] at h
  obtain ⟨e1, e2⟩ := List.append_inj h (by rw [num4_len, num4_len])
  rw [num4_inj (h1 x (by simp)).1 (h1 x (by simp)).2 (h2 y (by simp)).1 (h2 y (by simp)).2 e1, numsT_inj (by simpa using hl) (fun z hz => h1 z (by simp [hz])) (fun z hz => h2 z (by simp [hz])) e2]
def keyT (q : Nat × Int × List Int) : List UInt8 := numD 8 q.1 ++ num4 q.2.1 ++ numsT q.2.2
theorem keyT_inj {p q : Nat × Int × List Int} (hp : p.1 < 256 ^ 8) (hq : q.1 < 256 ^ 8) (hp2 : -1 ≤ p.2.1 ∧ p.2.1 < 2147483648) (hq2 : -1 ≤ q.2.1 ∧ q.2.1 < 2147483648) (hl : p.2.2.length = q.2.2.length) (h1 : ∀ x ∈ p.2.2, -1 ≤ x ∧ x < 2147483648) (h2 : ∀ x ∈ q.2.2, -1 ≤ x ∧ x < 2147483648) (h : keyT p = keyT q) : p = q := by
 unfold keyT at h
 obtain ⟨e1, e2⟩ := List.append_inj h (by rw [List.length_append, List.length_append, numD_len, numD_len, num4_len, num4_len])
 obtain ⟨e3, e4⟩ := List.append_inj e1 (by rw [numD_len, numD_len])
 obtain ⟨a, b, c⟩ := p
 obtain ⟨a', b', c'⟩ := q
 rw [show a = a' from numD_inj hp hq e3, show b = b' from num4_inj hp2.1 hp2.2 hq2.1 hq2.2 e4, show c = c' from numsT_inj hl h1 h2 e2]
theorem keyT_len (q : Nat × Int × List Int) : (keyT q).length = 12 + 4 * q.2.2.length := by
 unfold keyT
 rw [List.length_append, List.length_append, numD_len, num4_len, numsT_len]
def keyTV (b : List UInt8) : Value := .string ⟨b.toArray⟩
theorem keyTV_inj {b c : List UInt8} (h : keyTV b = keyTV c) : b = c := by
 unfold keyTV at h
 injection h with h
 injection h with h
 have := congrArg Array.toList h
 simpa using this
def bmap (M : List (List UInt8)) : List (Value × Value) := M.zipIdx.map fun p => (keyTV p.1, .int .i64 (p.2 : Int))
theorem bmap_len (M : List (List UInt8)) : (bmap M).length = M.length := by simp [bmap]
theorem bmap_mem {M : List (List UInt8)} {x : List UInt8} (h : x ∈ M) : (keyTV x, Value.int .i64 ((M.idxOf x : Nat) : Int)) ∈ bmap M := by
 unfold bmap
 refine List.mem_map.2 ⟨(x, M.idxOf x), ?_, rfl⟩
 rw [List.mem_zipIdx_iff_getElem?]
 show M[M.idxOf x]? = some x
 rw [List.getElem?_eq_getElem (List.idxOf_lt_length_of_mem h)]
 simp
theorem bmap_none {M : List (List UInt8)} {x : List UInt8} (h : x ∉ M) : ∀ p ∈ bmap M, p.1 ≠ keyTV x := by
 intro p hp he
 obtain ⟨q, hq, rfl⟩ := List.mem_map.1 hp
 rw [List.mem_zipIdx_iff_getElem?] at hq
 have : q.1 = x := keyTV_inj he
 exact h (this ▸ List.mem_of_getElem? hq)
theorem bmap_push (M : List (List UInt8)) (x : List UInt8) : bmap (M ++ [x]) = bmap M ++ [(keyTV x, .int .i64 (M.length : Int))] := by
 unfold bmap
 rw [List.zipIdx_append, List.map_append]
 simp
theorem keyOf9 (b : List UInt8) (hl : b.length ≤ 1000000000) : keyOf Tryz.prog 9 (keyTV b) = some (.string b) :=
 WideMaps.keyOf_string_mk Tryz.underlying9 (s := ⟨b.toArray⟩) (by show b.toArray.size ≤ maxLen; rw [List.size_toArray]; unfold maxLen; omega)
end Go.Proofs.YtochckefnjobhaaGreatDoor
