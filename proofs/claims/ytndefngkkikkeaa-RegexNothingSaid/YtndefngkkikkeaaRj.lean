/- regex.size: a regex's size. -/
import Derived.Test.YtndefngkkikkeaaRi
namespace Go.Proofs.Ytndefngkkikkeaa
open Go Go.RowKit Go.Lib
set_option linter.unusedVariables false

theorem RepLS.at_ {b : Nat → Prop} {w : World} {g : Nat} : ∀ {l : List X3.RX} {j : Nat}, RepLS b w l g j → ∀ (k : Nat) (hk : k < l.length), ∃ (kd x y z u : Int) (kv : Value), RepS b w l[k] (nodeV kd x y z u kv) ∧
    w.cell? ⟨g, (j + k) * 6, none⟩ = some (.int .i64 kd) ∧ w.cell? ⟨g, (j + k) * 6 + 1, none⟩ = some (.int .u64 x) ∧ w.cell? ⟨g, (j + k) * 6 + 2, none⟩ = some (.int .u64 y) ∧
    w.cell? ⟨g, (j + k) * 6 + 3, none⟩ = some (.int .u64 z) ∧ w.cell? ⟨g, (j + k) * 6 + 4, none⟩ = some (.int .u64 u) ∧ w.cell? ⟨g, (j + k) * 6 + 5, none⟩ = some kv
  | _, _, .nil _ _, k, hk => by simp at hk
  | _, j, .cons r l _ _ kd x y z u kv h c0 c1 c2 c3 c4 c5 h2, 0, _ => by
    have e : (j + 0) * 6 = 6 * j := by omega
    rw [e]
    exact ⟨kd, x, y, z, u, kv, h, c0, c1, c2, c3, c4, c5⟩
  | _, j, .cons r l _ _ kd x y z u kv h c0 c1 c2 c3 c4 c5 h2, k + 1, hk => by
    have := RepLS.at_ h2 k (by simpa using hk)
    rw [show j + 1 + k = j + (k + 1) by omega] at this
    simpa using this

theorem RepS.slice {b : Nat → Prop} {w : World} {r : X3.RX} {kd x y z u : Int} {kv : Value} (h : RepS b w r (nodeV kd x y z u kv)) : ∃ o n c, kv = .slice o n c := by
  generalize hv : nodeV kd x y z u kv = v at h
  cases h
  all_goals
    simp only [nodeV, Value.agg.injEq, Array.mk.injEq, List.cons.injEq] at hv
    exact ⟨_, _, _, hv.2.2.2.2.2.1⟩

theorem sizeL_take (l : List X3.RX) (k : Nat) (hk : k < l.length) : X3.sizeL (l.take (k + 1)) = X3.sizeL (l.take k) + l[k].size := by
  induction l generalizing k with
  | nil => simp at hk
  | cons r l ih =>
    cases k with
    | zero => simp [X3.sizeL]
    | succ k =>
      simp only [List.take_succ_cons, X3.sizeL, List.getElem_cons_succ]
      rw [ih k (by simpa using hk)]
      omega
theorem sizeL_le (l : List X3.RX) (k : Nat) : X3.sizeL (l.take k) ≤ X3.sizeL l := by
  induction l generalizing k with
  | nil => simp
  | cons r l ih =>
    cases k with
    | zero => simp [X3.sizeL]
    | succ k => simp only [List.take_succ_cons, X3.sizeL]; have := ih k; omega
theorem size_in (l : List X3.RX) (k : Nat) (hk : k < l.length) : l[k].size ≤ X3.sizeL l := by
  have := sizeL_take l k hk
  have := sizeL_le l (k + 1)
  omega

set_option maxRecDepth 100000 in
set_option maxHeartbeats 4000000 in
/-- The loop over the kids, the size of a kid in hand. -/
theorem size_kids (b : Nat) (w : World) (l : List X3.RX) (g cap : Nat) (kd x y z u : Int) (hl : RepL b w l g 0) (hg : b ≤ g) (hw : g < w.heap.size) (hn : 1 + X3.sizeL l < 9223372036854775808) (hll : l.length < 9223372036854775808) (hcap : l.length ≤ cap)
    (ih : ∀ (k : Nat) (hk : k < l.length) (w' : World) (v : Value), Rep b w' l[k] v → Calls Try.prog 42 #[v] w' fun e w'' => e = .returned (.int .i64 (l[k].size : Nat)) ∧ Below w'.heap.size w' w'') :
    Calls Try.prog 42 #[nodeV kd x y z u (.slice (some ⟨g, 0, none⟩) l.length cap)] w fun e w' => e = .returned (.int .i64 ((1 + X3.sizeL l : Nat) : Int)) ∧ Below w.heap.size w w' := by
  have IH := hid ih
  have HL := hid hl
  clear ih hl
  go_enter Try.func42, Try.ntmps42
  go_wp2_with fail
  go_loopw [3, 9] (fun n i wr => ∃ k : Nat, k ≤ l.length ∧ i = .int .i64 (k : Int) ∧ (∃ N : Nat, n = .int .i64 (N : Int) ∧ N = 1 + X3.sizeL (l.take k)) ∧ Below w.heap.size w wr) (fun _ i _ => l.length - (RowKit.intOf i).toNat)
  case atStart => exact ⟨0, by omega, rfl, ⟨1, rfl, by simp [X3.sizeL]⟩, (Below.refl _ w).alloc (Nat.le_refl _) _⟩
  case round =>
    obtain ⟨k, hk, rfl, ⟨N, rfl, hN⟩, hB⟩ := hrel
    by_cases hlt : k < l.length
    · obtain ⟨kd', x', y', z', u', kv', hR, c0, c1, c2, c3, c4, c5⟩ := RepLS.at_ (HL.out.kept (keep_below hB) hg hw) k hlt
      rw [Nat.zero_add] at c0 c1 c2 c3 c4 c5
      have h1 : (k : Int) < (l.length : Int) := by omega
      have h2 : (0 : Int) ≤ (k : Int) := by omega
      obtain ⟨ko, kn, kc, rfl⟩ := hR.slice
      have hsz := sizeL_take l k hlt
      have hle := sizeL_le l (k + 1)
      have hI := hid (IH.out k hlt)
      generalize hM : l[k].size = M at *
      have a0 : (0 : Int) ≤ (N : Int) + (M : Int) := by omega
      have a1 : (N : Int) + (M : Int) < 9223372036854775808 := by omega
      go_wp2_with fail
      refine (hI.out _ _ (hR.kept (keep_below ((Below.refl _ wr).alloc (Nat.le_refl _) _)))).mono ?_
      rintro e w2 ⟨rfl, hb2⟩
      go_wp2_with fail
      refine ⟨⟨k + 1, by omega, rfl, ⟨1 + X3.sizeL (l.take k) + M, rfl, by omega⟩, (hB.alloc hB.size _).trans (hb2.mono (by have := hB.size; simp; omega))⟩, ?_⟩
      show l.length - ((k : Int) + 1).toNat < l.length - ((k : Int)).toNat
      omega
    · have h1 : ¬ (k : Int) < (l.length : Int) := by omega
      go_wp2_with fail
      go_ret
      obtain rfl : k = l.length := by omega
      exact ⟨by rw [List.take_length]; rfl, hB⟩

theorem size_pos (r : X3.RX) : 1 ≤ r.size := by cases r <;> simp only [X3.RX.size] <;> omega
theorem length_le_sizeL (l : List X3.RX) : l.length ≤ X3.sizeL l := by
  induction l with
  | nil => simp
  | cons r l ih => simp only [List.length_cons, X3.sizeL]; have := size_pos r; omega

theorem size_any (b : Nat) : ∀ (n : Nat) (w : World) (r : X3.RX) (v : Value), r.size ≤ n → r.size < 9223372036854775808 → Rep b w r v →
    Calls Try.prog 42 #[v] w fun e w' => e = .returned (.int .i64 (r.size : Nat)) ∧ Below w.heap.size w w' := by
  intro n
  induction n with
  | zero => intro w r v h; have := size_pos r; omega
  | succ n ih =>
    intro w r v hn hb hR
    have leaf : ∀ (kd x y z u : Int), Calls Try.prog 42 #[nodeV kd x y z u noKids] w fun e w' => e = .returned (.int .i64 1) ∧ Below w.heap.size w w' := by
      intro kd x y z u
      go_enter Try.func42, Try.ntmps42
      go_wp2_with fail
      go_loopw [3, 9] (fun n i wr => i = .int .i64 0 ∧ n = .int .i64 1 ∧ Below w.heap.size w wr) (fun _ _ _ => 0)
      case atStart => exact ⟨rfl, rfl, (Below.refl _ w).alloc (Nat.le_refl _) _⟩
      case round =>
        obtain ⟨rfl, rfl, hB⟩ := hrel
        go_wp2_with fail
        go_ret
        exact ⟨rfl, hB⟩
    cases hR with
    | empty => exact leaf 0 0 0 0 0
    | bytes x y z u hx hy hz hu => exact leaf 1 x y z u
    | cat l g cap h hc hg hw h0 =>
      simp only [X3.RX.size] at hn hb ⊢
      have h1 := length_le_sizeL l
      exact size_kids b w l g cap 2 0 0 0 0 h hg hw (by omega) (by omega) hc fun k hk w' v hv => ih w' _ v (by have := size_in l k hk; omega) (by have := size_in l k hk; omega) hv
    | alt l g cap h hc hg hw h0 =>
      simp only [X3.RX.size] at hn hb ⊢
      have h1 := length_le_sizeL l
      exact size_kids b w l g cap 3 0 0 0 0 h hg hw (by omega) (by omega) hc fun k hk w' v hv => ih w' _ v (by have := size_in l k hk; omega) (by have := size_in l k hk; omega) hv
    | star r g cap h hc hg hw =>
      simp only [X3.RX.size] at hn hb ⊢
      have := size_kids b w [r] g cap 4 0 0 0 0 h hg hw (by simp only [X3.sizeL]; omega) (by simp) hc fun k hk w' v hv => ih w' _ v (by have := size_in [r] k hk; simp only [X3.sizeL] at this; omega) (by have := size_in [r] k hk; simp only [X3.sizeL] at this; omega) hv
      simp only [X3.sizeL, Nat.add_zero] at this
      exact this

end Go.Proofs.Ytndefngkkikkeaa
