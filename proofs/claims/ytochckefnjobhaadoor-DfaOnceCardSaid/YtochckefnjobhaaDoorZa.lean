/- nfa's machine: how great regexes are. -/
import Derived.Test.YtochckefnjobhaaDoorNh
namespace Go.Proofs.YtochckefnjobhaaDoor
open Go Go.RowKit Go.Lib
open X3 (RX Pl)
set_option linter.unusedVariables false
set_option linter.unusedSimpArgs false

set_option maxRecDepth 100000 in
set_option maxHeartbeats 4000000 in
theorem upto_kids (S : Nat → Prop) (most : Nat) (hmost : most ≤ 1000000) (w : World) (l : List X3.RX) (g cap : Nat) (kd x y z u : Int) (hl : RepLS S w l g 0) (hg : S g) (hw : g < w.heap.size) (hll : l.length < 9223372036854775808) (hcap : l.length ≤ cap)
    (ih : ∀ (k : Nat) (hk : k < l.length) (most : Nat) (hm : most ≤ 1000000) (w' : World) (v : Value), RepS S w' l[k] v → Calls Tryd.prog 30 #[v, .int .i64 (most : Int)] w' fun e w'' => e = .returned (.int .i64 ((min l[k].size (most + 1) : Nat) : Int)) ∧ Below w'.heap.size w' w'') :
    Calls Tryd.prog 30 #[nodeV kd x y z u (.slice (some ⟨g, 0, none⟩) l.length cap), .int .i64 (most : Int)] w fun e w' => e = .returned (.int .i64 ((min (1 + X3.sizeL l) (most + 1) : Nat) : Int)) ∧ Below w.heap.size w w' := by
  have IH := hid ih
  have HL := hid hl
  clear ih hl
  go_enter Tryd.func30, Tryd.ntmps30
  go_wp2_with fail
  go_loopw [5, 11] (fun n i wr => ∃ k : Nat, k ≤ l.length ∧ i = .int .i64 (k : Int) ∧ (∃ N : Nat, n = .int .i64 (N : Int) ∧ N = min (1 + X3.sizeL (l.take k)) (most + 1)) ∧ Below w.heap.size w wr) (fun _ i _ => l.length - (RowKit.intOf i).toNat)
  case atStart => exact ⟨0, by omega, rfl, ⟨1, rfl, by simp [X3.sizeL]⟩, (Below.refl _ w).alloc (Nat.le_refl _) _⟩
  case round =>
    obtain ⟨k, hk, rfl, ⟨N, rfl, hN⟩, hB⟩ := hrel
    have hle0 := sizeL_le l k
    have HN := hid hN
    have hNb : N ≤ 1000001 := by omega
    clear hN
    by_cases hlt : k < l.length
    · obtain ⟨kd', x', y', z', u', kv', hR, c0, c1, c2, c3, c4, c5⟩ := RepLS.at_ (HL.out.kept (keepS_below hB) hg hw) k hlt
      rw [Nat.zero_add] at c0 c1 c2 c3 c4 c5
      have h1 : (k : Int) < (l.length : Int) := by omega
      have h2 : (0 : Int) ≤ (k : Int) := by omega
      obtain ⟨ko, kn, kc, rfl⟩ := hR.slice
      have hsz := sizeL_take l k hlt
      have hle := sizeL_le l (k + 1)
      by_cases hm : most < N
      · have h3 : (most : Int) < (N : Int) := by omega
        go_wp2_with fail
        go_ret
        have hN := HN.out
        exact ⟨by rw [show min (1 + X3.sizeL l) (most + 1) = N by omega]; rfl, hB.alloc hB.size _⟩
      · have h3 : ¬ (most : Int) < (N : Int) := by omega
        have hI := hid (IH.out k hlt (most - N) (by omega))
        have e1 : (most : Int) - (N : Int) = ((most - N : Nat) : Int) := by omega
        have b0 : (0 : Int) ≤ ((most - N : Nat) : Int) := by omega
        have b1 : ((most - N : Nat) : Int) < 9223372036854775808 := by omega
        have hM2 : N + min l[k].size (most - N + 1) = min (1 + X3.sizeL (l.take (k + 1))) (most + 1) := by have hN := HN.out; omega
        generalize min l[k].size (most - N + 1) = M2 at *
        generalize hQ : most - N = Q at *
        have HM2 := hid hM2
        have hMb : N + M2 ≤ 1000001 := by omega
        clear hQ hM2 hsz
        have a0 : (0 : Int) ≤ (N : Int) + (M2 : Int) := by omega
        have a1 : (N : Int) + (M2 : Int) < 9223372036854775808 := by omega
        go_wp2_with fail
        refine (hI.out _ _ (hR.kept (keepS_below ((Below.refl _ wr).alloc (Nat.le_refl _) _)))).mono ?_
        rintro e w2 ⟨rfl, hb2⟩
        go_wp2_with fail
        refine ⟨⟨k + 1, by omega, rfl, ⟨N + M2, rfl, HM2.out⟩, (hB.alloc hB.size _).trans (hb2.mono (by have := hB.size; simp; omega))⟩, ?_⟩
        show l.length - ((k : Int) + 1).toNat < l.length - ((k : Int)).toNat
        omega
    · have h1 : ¬ (k : Int) < (l.length : Int) := by omega
      go_wp2_with fail
      go_ret
      obtain rfl : k = l.length := by omega
      have hN := HN.out
      rw [List.take_length] at hN
      exact ⟨by rw [← hN]; rfl, hB⟩

theorem upto_any (S : Nat → Prop) : ∀ (n : Nat) (most : Nat) (hm : most ≤ 1000000) (w : World) (r : X3.RX) (v : Value), r.size ≤ n → r.size < 9223372036854775808 → RepS S w r v →
    Calls Tryd.prog 30 #[v, .int .i64 (most : Int)] w fun e w' => e = .returned (.int .i64 ((min r.size (most + 1) : Nat) : Int)) ∧ Below w.heap.size w w' := by
  intro n
  induction n with
  | zero => intro most hm w r v h; have := size_pos r; omega
  | succ n ih =>
    intro most hm w r v hn hb hR
    have leaf : ∀ (kd x y z u : Int), Calls Tryd.prog 30 #[nodeV kd x y z u noKids, .int .i64 (most : Int)] w fun e w' => e = .returned (.int .i64 ((min 1 (most + 1) : Nat) : Int)) ∧ Below w.heap.size w w' := by
      intro kd x y z u
      rw [show min 1 (most + 1) = 1 by omega]
      go_enter Tryd.func30, Tryd.ntmps30
      go_wp2_with fail
      go_loopw [5, 11] (fun n i wr => i = .int .i64 0 ∧ n = .int .i64 1 ∧ Below w.heap.size w wr) (fun _ _ _ => 0)
      case atStart => exact ⟨rfl, rfl, (Below.refl _ w).alloc (Nat.le_refl _) _⟩
      case round =>
        obtain ⟨rfl, rfl, hB⟩ := hrel
        go_wp2_with fail
        go_ret
        exact ⟨rfl, hB⟩
    cases hR with
    | empty => exact leaf 0 0 0 0 0
    | bytes x y z u hx hy hz hu => exact leaf 1 x y z u
    | cat l g cap h hc hg hw h0 =>
      simp only [X3.RX.size] at hn hb ⊢
      have h1 := length_le_sizeL l
      exact upto_kids S most hm w l g cap 2 0 0 0 0 h hg hw (by omega) hc fun k hk m2 hm2 w' v hv => ih m2 hm2 w' _ v (by have := size_in l k hk; omega) (by have := size_in l k hk; omega) hv
    | alt l g cap h hc hg hw h0 =>
      simp only [X3.RX.size] at hn hb ⊢
      have h1 := length_le_sizeL l
      exact upto_kids S most hm w l g cap 3 0 0 0 0 h hg hw (by omega) hc fun k hk m2 hm2 w' v hv => ih m2 hm2 w' _ v (by have := size_in l k hk; omega) (by have := size_in l k hk; omega) hv
    | star r g cap h hc hg hw =>
      simp only [X3.RX.size] at hn hb ⊢
      have := upto_kids S most hm w [r] g cap 4 0 0 0 0 h hg hw (by simp) hc fun k hk m2 hm2 w' v hv => ih m2 hm2 w' _ v (by have := size_in [r] k hk; simp only [X3.sizeL] at this; omega) (by have := size_in [r] k hk; simp only [X3.sizeL] at this; omega) hv
      simp only [X3.sizeL, Nat.add_zero] at this
      exact this

end Go.Proofs.YtochckefnjobhaaDoor
