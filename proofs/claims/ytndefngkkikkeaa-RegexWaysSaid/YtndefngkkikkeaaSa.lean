/- regex.Has, kidOfStar, Nullable. -/
import Derived.Test.YtndefngkkikkeaaRt
import Derived.Laws.Bits64b
namespace Go.Proofs.X3
/-- Has a regex a byte? -/
def hasX (r : RX) (x : Nat) : Bool :=
  match r with
  | .bytes a b c d => ((if x < 64 then a else if x < 128 then b else if x < 192 then c else d) >>> (x % 64)) % 2 == 1
  | _ => false
mutual
def nullX : RX → Bool
  | .empty => true
  | .bytes _ _ _ _ => false
  | .cat l => nullAll l
  | .alt l => nullAny l
  | .star _ => true
def nullAll : List RX → Bool
  | [] => true
  | r :: l => nullX r && nullAll l
def nullAny : List RX → Bool
  | [] => false
  | r :: l => nullX r || nullAny l
end
theorem nullAll_drop (l : List RX) (k : Nat) (hk : k < l.length) : nullAll (l.drop k) = (nullX l[k] && nullAll (l.drop (k + 1))) := by
  rw [List.drop_eq_getElem_cons hk]; rfl
theorem nullAny_drop (l : List RX) (k : Nat) (hk : k < l.length) : nullAny (l.drop k) = (nullX l[k] || nullAny (l.drop (k + 1))) := by
  rw [List.drop_eq_getElem_cons hk]; rfl
end Go.Proofs.X3
namespace Go.Proofs.Ytndefngkkikkeaa
open Go Go.RowKit Go.Lib
set_option linter.unusedVariables false
set_option linter.unusedSimpArgs false

set_option maxRecDepth 100000 in
set_option maxHeartbeats 2000000 in
theorem has_no (k : Int) (x y z u : Int) (kv : Value) (c : Nat) (hk : k ≠ 1) (w : World) :
    Calls Try.prog 15 #[nodeV k x y z u kv, .int .u8 (c : Int)] w fun e w' => e = .returned (.bool false) ∧ Below w.heap.size w w' := by
  have t1 : (k == 1) = false := by simpa using hk
  go_enter Try.func15, Try.ntmps15
  go_wp2_with fail
  go_ret
  exact ⟨rfl, (Below.refl _ w).alloc (Nat.le_refl _) _⟩

/-- The word of four in which a byte's bit is. -/
def wordAt (a b c d x : Nat) : Nat := if x < 64 then a else if x < 128 then b else if x < 192 then c else d

theorem wordAt_lt {a b c d : Nat} (ha : a < 2 ^ 64) (hb : b < 2 ^ 64) (hc : c < 2 ^ 64) (hd : d < 2 ^ 64) (x : Nat) : wordAt a b c d x < 2 ^ 64 := by
  unfold wordAt
  split
  · exact ha
  · split
    · exact hb
    · split
      · exact hc
      · exact hd

set_option maxRecDepth 100000 in
set_option maxHeartbeats 2000000 in
theorem has_bytes (a b c d : Nat) (ha : a < 2 ^ 64) (hb : b < 2 ^ 64) (hc : c < 2 ^ 64) (hd : d < 2 ^ 64) (x : Nat) (hx : x < 256) (kv : Value) (w : World) :
    Calls Try.prog 15 #[nodeV 1 a b c d kv, .int .u8 (x : Int)] w fun e w' => e = .returned (.bool (X3.hasX (.bytes a b c d) x)) ∧ Below w.heap.size w w' := by
  have hX : X3.hasX (.bytes a b c d) x = ((wordAt a b c d x >>> (x % 64)) % 2 == 1) := rfl
  obtain ⟨w0, e0⟩ : ∃ w0, w.alloc (.cells #[.int .i64 1, .int .u64 (a : Int), .int .u64 (b : Int), .int .u64 (c : Int), .int .u64 (d : Int), kv] 28) = w0 := ⟨_, rfl⟩
  have hb0 : Below w.heap.size w w0 := by rw [← e0]; exact (Below.refl _ _).alloc (Nat.le_refl _) _
  have hz0 : w0.heap[w.heap.size]? = some (.cells #[.int .i64 1, .int .u64 (a : Int), .int .u64 (b : Int), .int .u64 (c : Int), .int .u64 (d : Int), kv] 28 (0, 0)) := by rw [← e0]; exact new_block _ _
  have hwd : wordAt a b c d x < 2 ^ 64 := wordAt_lt ha hb hc hd x
  have px : w0.cell? ⟨w.heap.size, 1 + x / 64, none⟩ = some (.int .u64 ((wordAt a b c d x : Nat) : Int)) := by
    rw [Lib.cell_of_heap hz0]
    unfold wordAt
    by_cases h1 : x < 64
    · rw [if_pos h1, show 1 + x / 64 = 1 by omega]; rfl
    · by_cases h2 : x < 128
      · rw [if_neg h1, if_pos h2, show 1 + x / 64 = 2 by omega]; rfl
      · by_cases h3 : x < 192
        · rw [if_neg h1, if_neg h2, if_pos h3, show 1 + x / 64 = 3 by omega]; rfl
        · rw [if_neg h1, if_neg h2, if_neg h3, show 1 + x / 64 = 4 by omega]; rfl
  rw [hX]
  clear hX
  generalize wordAt a b c d x = wd at *
  obtain ⟨p0, p1, p2, p3, p4, p5⟩ := cells6 hz0
  go_enter Try.func15, Try.ntmps15
  go_wp2_with fail
  have hq : bits BinOp.and IntKind.u64 ((wd : Int) / 2 ^ (x % 64)) 1 = (((wd >>> (x % 64)) % 2 : Nat) : Int) := by
    have e1 : ((wd : Int) / 2 ^ (x % 64)) = ((wd >>> (x % 64) : Nat) : Int) := by rw [Nat.shiftRight_eq_div_pow]; simp
    have hlt : wd >>> (x % 64) < 18446744073709551616 := by rw [Nat.shiftRight_eq_div_pow]; exact Nat.lt_of_le_of_lt (Nat.div_le_self _ _) hwd
    have := bits_and_u64_nat (wd >>> (x % 64)) 1 hlt (by decide)
    rw [e1]
    rw [Nat.and_one_is_mod] at this
    exact this
  have hv : ((((wd >>> (x % 64)) % 2 : Nat) : Int) == 1) = ((wd >>> (x % 64)) % 2 == 1) := by
    generalize (wd >>> (x % 64)) % 2 = q
    rw [Bool.eq_iff_iff, beq_iff_eq, beq_iff_eq]; omega
  rw [hq, hv]
  go_ret
  exact ⟨rfl, hb0⟩

theorem has_any {S : Nat → Prop} {w0 : World} {r : X3.RX} {v : Value} (h : RepS S w0 r v) (x : Nat) (hx : x < 256) (w : World) :
    Calls Try.prog 15 #[v, .int .u8 (x : Int)] w fun e w' => e = .returned (.bool (X3.hasX r x)) ∧ Below w.heap.size w w' := by
  cases h with
  | empty => exact has_no 0 0 0 0 0 _ x (by decide) w
  | bytes a b c d ha hb hc hd => exact has_bytes a b c d ha hb hc hd x hx _ w
  | cat l g cap _ _ _ _ _ => exact has_no 2 0 0 0 0 _ x (by decide) w
  | alt l g cap _ _ _ _ _ => exact has_no 3 0 0 0 0 _ x (by decide) w
  | star r g cap _ _ _ _ => exact has_no 4 0 0 0 0 _ x (by decide) w

set_option maxRecDepth 100000 in
set_option maxHeartbeats 2000000 in
/-- A star's kid. -/
theorem kid_any {S : Nat → Prop} {w : World} {r : X3.RX} {v : Value} (h : RepS S w (.star r) v) : ∃ vk, RepS S w r vk ∧
    Calls Try.prog 36 #[v] w fun e w' => e = .returned vk ∧ Below w.heap.size w w' := by
  cases h with
  | star _ g cap hl hc hg hw =>
    obtain ⟨ka, kx, ky, kz, ku, kv, hR, c0, c1, c2, c3, c4, c5⟩ := RepLS.at_ hl 0 (by simp)
    obtain ⟨ko, kn, kc, rfl⟩ := hR.slice
    refine ⟨_, hR, ?_⟩
    clear hR hl
    simp only [Nat.zero_add, Nat.zero_mul] at c0 c1 c2 c3 c4 c5
    obtain ⟨w0, e0⟩ : ∃ w0, (w.alloc (.cells #[.int .i64 4, .int .u64 0, .int .u64 0, .int .u64 0, .int .u64 0, .slice (some ⟨g, 0, none⟩) 1 cap] 28)).alloc (.cells zero6 28) = w0 := ⟨_, rfl⟩
    have hb0 : Below w.heap.size w w0 := by rw [← e0]; exact below_two _ _ _
    have hz0 : w0.heap[w.heap.size + 1]? = some (.cells zero6 28 (0, 0)) := by rw [← e0]; exact new_block2 _ _ _
    have hv0 : w0.heap[w.heap.size]? = some (.cells #[.int .i64 4, .int .u64 0, .int .u64 0, .int .u64 0, .int .u64 0, .slice (some ⟨g, 0, none⟩) 1 cap] 28 (0, 0)) := by rw [← e0]; exact (Below.heap_alloc _ _ _ (by simp)).trans (new_block _ _)
    have hs0 : w0.heap.size = w.heap.size + 1 + 1 := by rw [← e0]; simp
    have e : ∀ q, w0.cell? ⟨g, q, none⟩ = w.cell? ⟨g, q, none⟩ := fun q => World.cell?_of_block (hb0.block g hw)
    rw [← e] at c0 c1 c2 c3 c4 c5
    unfold zero6 at e0 hz0
    obtain ⟨p0, p1, p2, p3, p4, p5⟩ := cells6 hv0
    obtain ⟨n0, n1, n2, n3, n4, n5⟩ := cells6 hz0
    obtain ⟨f0, f1, f2, f3, f4, f5⟩ := frozen6 hz0
    obtain ⟨w8, e8, hz8, hg8, hs8⟩ := six hz0 (.int .i64 ka) (.int .u64 kx) (.int .u64 ky) (.int .u64 kz) (.int .u64 ku) (.slice ko kn kc)
    go_enter Try.func36, Try.ntmps36
    go_wp2_with fail
    obtain ⟨y0, y1, y2, y3, y4, y5⟩ := cells6 hz8
    exact bodyPost_ret (v := nodeV ka kx ky kz ku (.slice ko kn kc)) (by simp [results, Try.results36, go_sem, y0, y1, y2, y3, y4, y5]) rfl ⟨rfl, below_fresh hb0 (by omega) (by omega) hg8⟩

set_option maxRecDepth 100000 in
set_option maxHeartbeats 4000000 in
theorem null_kids (S : Nat → Prop) (w : World) (l : List X3.RX) (g cap : Nat) (alt : Bool) (hl : RepLS S w l g 0) (hg : S g) (hw : g < w.heap.size) (hll : l.length < 9223372036854775808) (hcap : l.length ≤ cap)
    (ih : ∀ (k : Nat) (hk : k < l.length) (w' : World) (v : Value), RepS S w' l[k] v → Calls Try.prog 18 #[v] w' fun e w'' => e = .returned (.bool (X3.nullX l[k])) ∧ Below w'.heap.size w' w'') :
    Calls Try.prog 18 #[nodeV (if alt then 3 else 2) 0 0 0 0 (.slice (some ⟨g, 0, none⟩) l.length cap)] w fun e w' => e = .returned (.bool (if alt then X3.nullAny l else X3.nullAll l)) ∧ Below w.heap.size w w' := by
  have IH := hid ih
  have HL := hid hl
  clear ih hl
  cases alt
  · simp only [Bool.false_eq_true, if_false]
    obtain ⟨R, hR⟩ : ∃ R, Hid (R = X3.nullAll l) := ⟨_, hid rfl⟩
    rw [← hR.out]
    go_enter Try.func18, Try.ntmps18
    go_wp2_with fail
    go_loopw [17] (fun i wr => ∃ k : Nat, k ≤ l.length ∧ i = .int .i64 (k : Int) ∧ Hid (R = X3.nullAll (l.drop k)) ∧ Below w.heap.size w wr) (fun i _ => l.length - (RowKit.intOf i).toNat)
    case atStart => exact ⟨0, by omega, rfl, hR, (Below.refl _ w).alloc (Nat.le_refl _) _⟩
    case round =>
      obtain ⟨k, hk, rfl, hq, hB⟩ := hrel
      by_cases hlt : k < l.length
      · obtain ⟨kd', x', y', z', u', kv', hRk, c0, c1, c2, c3, c4, c5⟩ := RepLS.at_ (HL.out.kept (keepS_below (hB.mono (Nat.le_refl _))) hg hw) k hlt
        rw [Nat.zero_add] at c0 c1 c2 c3 c4 c5
        have h1 : (k : Int) < (l.length : Int) := by omega
        have h2 : (0 : Int) ≤ (k : Int) := by omega
        obtain ⟨ko, kn, kc, rfl⟩ := hRk.slice
        have hI := hid (IH.out k hlt)
        have hd := hq.out
        rw [X3.nullAll_drop l k hlt] at hd
        have hRa := hid (hRk.kept (keepS_below ((Below.refl _ wr).alloc (Nat.le_refl _) (.cells #[.int .i64 kd', .int .u64 x', .int .u64 y', .int .u64 z', .int .u64 u', .slice ko kn kc] 28))))
        clear hRk hq
        cases hn : X3.nullX l[k] with
        | true =>
          rw [hn, Bool.true_and] at hd
          rw [hn] at hI
          have hq := hid hd
          clear hd
          generalize l[k] = rk at *
          go_wp2_with fail
          refine (hI.out _ _ hRa.out).mono ?_
          rintro e w2 ⟨rfl, hb2⟩
          go_wp2_with fail
          refine ⟨⟨k + 1, by omega, rfl, hq, (hB.alloc hB.size _).trans (hb2.mono (by have := hB.size; simp; omega))⟩, ?_⟩
          show l.length - ((k : Int) + 1).toNat < l.length - ((k : Int)).toNat
          omega
        | false =>
          rw [hn, Bool.false_and] at hd
          rw [hn] at hI
          subst hd
          generalize l[k] = rk at *
          go_wp2_with fail
          refine (hI.out _ _ hRa.out).mono ?_
          rintro e w2 ⟨rfl, hb2⟩
          go_wp2_with fail
          go_ret
          exact ⟨rfl, (hB.alloc hB.size _).trans (hb2.mono (by have := hB.size; simp; omega))⟩
      · have h1 : ¬ (k : Int) < (l.length : Int) := by omega
        obtain rfl : k = l.length := by omega
        have hd := hq.out
        rw [List.drop_length] at hd
        have hd' : R = true := hd
        subst hd'
        clear hd hq
        go_wp2_with fail
        go_ret
        exact ⟨rfl, hB⟩
  · simp only [if_true]
    obtain ⟨R, hR⟩ : ∃ R, Hid (R = X3.nullAny l) := ⟨_, hid rfl⟩
    rw [← hR.out]
    go_enter Try.func18, Try.ntmps18
    go_wp2_with fail
    go_loopw [30] (fun i wr => ∃ k : Nat, k ≤ l.length ∧ i = .int .i64 (k : Int) ∧ Hid (R = X3.nullAny (l.drop k)) ∧ Below w.heap.size w wr) (fun i _ => l.length - (RowKit.intOf i).toNat)
    case atStart => exact ⟨0, by omega, rfl, hR, (Below.refl _ w).alloc (Nat.le_refl _) _⟩
    case round =>
      obtain ⟨k, hk, rfl, hq, hB⟩ := hrel
      by_cases hlt : k < l.length
      · obtain ⟨kd', x', y', z', u', kv', hRk, c0, c1, c2, c3, c4, c5⟩ := RepLS.at_ (HL.out.kept (keepS_below (hB.mono (Nat.le_refl _))) hg hw) k hlt
        rw [Nat.zero_add] at c0 c1 c2 c3 c4 c5
        have h1 : (k : Int) < (l.length : Int) := by omega
        have h2 : (0 : Int) ≤ (k : Int) := by omega
        obtain ⟨ko, kn, kc, rfl⟩ := hRk.slice
        have hI := hid (IH.out k hlt)
        have hd := hq.out
        rw [X3.nullAny_drop l k hlt] at hd
        have hRa := hid (hRk.kept (keepS_below ((Below.refl _ wr).alloc (Nat.le_refl _) (.cells #[.int .i64 kd', .int .u64 x', .int .u64 y', .int .u64 z', .int .u64 u', .slice ko kn kc] 28))))
        clear hRk hq
        cases hn : X3.nullX l[k] with
        | false =>
          rw [hn, Bool.false_or] at hd
          rw [hn] at hI
          have hq := hid hd
          clear hd
          generalize l[k] = rk at *
          go_wp2_with fail
          refine (hI.out _ _ hRa.out).mono ?_
          rintro e w2 ⟨rfl, hb2⟩
          go_wp2_with fail
          refine ⟨⟨k + 1, by omega, rfl, hq, (hB.alloc hB.size _).trans (hb2.mono (by have := hB.size; simp; omega))⟩, ?_⟩
          show l.length - ((k : Int) + 1).toNat < l.length - ((k : Int)).toNat
          omega
        | true =>
          rw [hn, Bool.true_or] at hd
          rw [hn] at hI
          subst hd
          generalize l[k] = rk at *
          go_wp2_with fail
          refine (hI.out _ _ hRa.out).mono ?_
          rintro e w2 ⟨rfl, hb2⟩
          go_wp2_with fail
          go_ret
          exact ⟨rfl, (hB.alloc hB.size _).trans (hb2.mono (by have := hB.size; simp; omega))⟩
      · have h1 : ¬ (k : Int) < (l.length : Int) := by omega
        obtain rfl : k = l.length := by omega
        have hd := hq.out
        rw [List.drop_length] at hd
        have hd' : R = false := hd
        subst hd'
        clear hd hq
        go_wp2_with fail
        go_ret
        exact ⟨rfl, hB⟩

set_option maxRecDepth 100000 in
set_option maxHeartbeats 2000000 in
theorem null_any (S : Nat → Prop) : ∀ (n : Nat) (w : World) (r : X3.RX) (v : Value), r.size ≤ n → r.size < 9223372036854775808 → RepS S w r v →
    Calls Try.prog 18 #[v] w fun e w' => e = .returned (.bool (X3.nullX r)) ∧ Below w.heap.size w w' := by
  intro n
  induction n with
  | zero => intro w r v h; have := size_pos r; omega
  | succ n ih =>
    intro w r v hn hb hR
    cases hR with
    | empty =>
      go_enter Try.func18, Try.ntmps18
      go_wp2_with fail
      go_ret
      exact ⟨rfl, (Below.refl _ w).alloc (Nat.le_refl _) _⟩
    | bytes x y z u hx hy hz hu =>
      go_enter Try.func18, Try.ntmps18
      go_wp2_with fail
      go_ret
      exact ⟨rfl, (Below.refl _ w).alloc (Nat.le_refl _) _⟩
    | cat l g cap h hc hg hw h0 =>
      simp only [X3.RX.size] at hn hb
      have h1 := length_le_sizeL l
      exact null_kids S w l g cap false h hg hw (by omega) hc fun k hk w' v hv => ih w' _ v (by have := size_in l k hk; omega) (by have := size_in l k hk; omega) hv
    | alt l g cap h hc hg hw h0 =>
      simp only [X3.RX.size] at hn hb
      have h1 := length_le_sizeL l
      exact null_kids S w l g cap true h hg hw (by omega) hc fun k hk w' v hv => ih w' _ v (by have := size_in l k hk; omega) (by have := size_in l k hk; omega) hv
    | star r g cap h hc hg hw =>
      go_enter Try.func18, Try.ntmps18
      go_wp2_with fail
      go_ret
      exact ⟨rfl, (Below.refl _ w).alloc (Nat.le_refl _) _⟩

end Go.Proofs.Ytndefngkkikkeaa
