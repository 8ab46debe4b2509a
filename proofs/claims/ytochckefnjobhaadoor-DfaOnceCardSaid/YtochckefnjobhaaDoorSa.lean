/- regex.Has, kidOfStar, Nullable. -/
import Derived.Test.YtochckefnjobhaaDoorRt
import Derived.Laws.Bits64b
namespace Go.Proofs.X3
/-- Has a regex a byte? -/
def hasX (r : RX) (x : Nat) : Bool :=
  match r with
  | .bytes a b c d => ((if x < 64 then a else if x < 128 then b else if x < 192 then c else d) >>> (x % 64)) % 2 == 1
  | _ => false
mutual
def nullX : RX → Bool
  | .empty => true
  | .bytes _ _ _ _ => false
  | .cat l => nullAll l
  | .alt l => nullAny l
  | .star _ => true
def nullAll : List RX → Bool
  | [] => true
  | r :: l => nullX r && nullAll l
def nullAny : List RX → Bool
  | [] => false
  | r :: l => nullX r || nullAny l
end
theorem nullAll_drop (l : List RX) (k : Nat) (hk : k < l.length) : nullAll (l.drop k) = (nullX l[k] && nullAll (l.drop (k + 1))) := by
  rw [List.drop_eq_getElem_cons hk]; rfl
theorem nullAny_drop (l : List RX) (k : Nat) (hk : k < l.length) : nullAny (l.drop k) = (nullX l[k] || nullAny (l.drop (k + 1))) := by
  rw [List.drop_eq_getElem_cons hk]; rfl
end Go.Proofs.X3
namespace Go.Proofs.YtochckefnjobhaaDoor
open Go Go.RowKit Go.Lib
set_option linter.unusedVariables false
set_option linter.unusedSimpArgs false

set_option maxRecDepth 100000 in
set_option maxHeartbeats 2000000 in
theorem has_no (k : Int) (x y z u : Int) (kv : Value) (c : Nat) (hk : k ≠ 1) (w : World) :
    Calls Tryd.prog 38 #[nodeV k x y z u kv, .int .u8 (c : Int)] w fun e w' => e = .returned (.bool false) ∧ Below w.heap.size w w' := by
  have t1 : (k == 1) = false := by simpa using hk
  go_enter Tryd.func38, Tryd.ntmps38
  go_wp2_with fail
  go_ret
  exact ⟨rfl, (Below.refl _ w).alloc (Nat.le_refl _) _⟩

/-- The word of four in which a byte's bit is. -/
def wordAt (a b c d x : Nat) : Nat := if x < 64 then a else if x < 128 then b else if x < 192 then c else d

theorem wordAt_lt {a b c d : Nat} (ha : a < 2 ^ 64) (hb : b < 2 ^ 64) (hc : c < 2 ^ 64) (hd : d < 2 ^ 64) (x : Nat) : wordAt a b c d x < 2 ^ 64 := by
  unfold wordAt
  split
  · exact ha
  · split
    · exact hb
    · split
      · exact hc
      · exact hd

set_option maxRecDepth 100000 in
set_option maxHeartbeats 2000000 in
theorem has_bytes (a b c d : Nat) (ha : a < 2 ^ 64) (hb : b < 2 ^ 64) (hc : c < 2 ^ 64) (hd : d < 2 ^ 64) (x : Nat) (hx : x < 256) (kv : Value) (w : World) :
    Calls Tryd.prog 38 #[nodeV 1 a b c d kv, .int .u8 (x : Int)] w fun e w' => e = .returned (.bool (X3.hasX (.bytes a b c d) x)) ∧ Below w.heap.size w w' := by
  have hX : X3.hasX (.bytes a b c d) x = ((wordAt a b c d x >>> (x % 64)) % 2 == 1) := rfl
  obtain ⟨w0, e0⟩ : ∃ w0, w.alloc (.cells #[.int .i64 1, .int .u64 (a : Int), .int .u64 (b : Int), .int .u64 (c : Int), .int .u64 (d : Int), kv] 38) = w0 := ⟨_, rfl⟩
  have hb0 : Below w.heap.size w w0 := by rw [← e0]; exact (Below.refl _ _).alloc (Nat.le_refl _) _
  have hz0 : w0.heap[w.heap.size]? = some (.cells #[.int .i64 1, .int .u64 (a : Int), .int .u64 (b : Int), .int .u64 (c : Int), .int .u64 (d : Int), kv] 38 (0, 0)) := by rw [← e0]; exact new_block _ _
  have hwd : wordAt a b c d x < 2 ^ 64 := wordAt_lt ha hb hc hd x
  have px : w0.cell? ⟨w.heap.size, 1 + x / 64, none⟩ = some (.int .u64 ((wordAt a b c d x : Nat) : Int)) := by
    rw [Lib.cell_of_heap hz0]
    unfold wordAt
    by_cases h1 : x < 64
    · rw [if_pos h1, show 1 + x / 64 = 1 by omega]; rfl
    · by_cases h2 : x < 128
      · rw [if_neg h1, if_pos h2, show 1 + x / 64 = 2 by omega]; rfl
      · by_cases h3 : x < 192
        · rw [if_neg h1, if_neg h2, if_pos h3, show 1 + x / 64 = 3 by omega]; rfl
        · rw [if_neg h1, if_neg h2, if_neg h3, show 1 + x / 64 = 4 by omega]; rfl
  rw [hX]
  clear hX
  generalize wordAt a b c d x = wd at *
  obtain ⟨p0, p1, p2, p3, p4, p5⟩ := cells6 hz0
  go_enter Tryd.func38, Tryd.ntmps38
  go_wp2_with fail
  have hq : bits BinOp.and IntKind.u64 ((wd : Int) / 2 ^ (x % 64)) 1 = (((wd >>> (x % 64)) % 2 : Nat) : Int) := by
    have e1 : ((wd : Int) / 2 ^ (x % 64)) = ((wd >>> (x % 64) : Nat) : Int) := by rw [Nat.shiftRight_eq_div_pow]; simp
    have hlt : wd >>> (x % 64) < 18446744073709551616 := by rw [Nat.shiftRight_eq_div_pow]; exact Nat.lt_of_le_of_lt (Nat.div_le_self _ _) hwd
    have := bits_and_u64_nat (wd >>> (x % 64)) 1 hlt (by decide)
    rw [e1]
    rw [Nat.and_one_is_mod] at this
    exact this
  have hv : ((((wd >>> (x % 64)) % 2 : Nat) : Int) == 1) = ((wd >>> (x % 64)) % 2 == 1) := by
    generalize (wd >>> (x % 64)) % 2 = q
    rw [Bool.eq_iff_iff, beq_iff_eq, beq_iff_eq]; omega
  rw [hq, hv]
  go_ret
  exact ⟨rfl, hb0⟩

theorem has_any {S : Nat → Prop} {w0 : World} {r : X3.RX} {v : Value} (h : RepS S w0 r v) (x : Nat) (hx : x < 256) (w : World) :
    Calls Tryd.prog 38 #[v, .int .u8 (x : Int)] w fun e w' => e = .returned (.bool (X3.hasX r x)) ∧ Below w.heap.size w w' := by
  cases h with
  | empty => exact has_no 0 0 0 0 0 _ x (by decide) w
  | bytes a b c d ha hb hc hd => exact has_bytes a b c d ha hb hc hd x hx _ w
  | cat l g cap _ _ _ _ _ => exact has_no 2 0 0 0 0 _ x (by decide) w
  | alt l g cap _ _ _ _ _ => exact has_no 3 0 0 0 0 _ x (by decide) w
  | star r g cap _ _ _ _ => exact has_no 4 0 0 0 0 _ x (by decide) w

end Go.Proofs.YtochckefnjobhaaDoor
