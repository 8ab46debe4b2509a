/- nfa's machine: lay, of any regex. -/
import Derived.Test.YtochckefnjobhaaDoorNg
namespace Go.Proofs.YtochckefnjobhaaDoor
open Go Go.RowKit Go.Lib
open X3 (RX Pl)

theorem lay_upto (S : Nat → Prop) (B m : Nat) (hS : ∀ g, S g → g < B) : ∀ (n : Nat) (r : RX), r.size ≤ n → r.size ≤ 1000000 → ∀ (T : Nat → Nat) (w : World) (v : Value) (b : Nat) (pv : Value) (AS : List Value) (P : List Pl), RepS S w r v → MRep T B m w pv AS P → b < P.length → X3.Bd P P.length → P.length + r.size * r.size * r.size ≤ 100000000000 → X3.muL P + 4 * (r.size * r.size * r.size) ≤ 1000000000000 → B ≤ w.heap.size →
    (∀ j, P.length ≤ j → j < (X3.layX r b P).2.length → T j = 0) → Calls Tryd.prog 33 #[.pointer (some ⟨m, 0, none⟩), v, .int .i64 (b : Int)] w (LayP T B m w pv AS (X3.layX r b P)) := by
  intro n
  induction n with
  | zero => intro r h0; exact absurd h0 (by have := size_pos r; omega)
  | succ n ih =>
    intro r hn hN T w v b pv AS P hR hM hb hBd hP hmu hBw hT
    cases hR with
    | empty => exact lay_empty T B m b w pv AS P hM
    | bytes x y z u => exact lay_bytes T B m b w pv AS P x y z u hM (by omega) hBw (hT _ (Nat.le_refl _) (by simp [X3.layX]))
    | cat l g cap h hc hg hw h0 =>
      have hll := length_le_sizeL l
      simp only [X3.RX.size] at hn hN hP hmu
      exact lay_cat T S B m b hS w pv AS P l g cap h hg hw hc hM hb hBd hP hmu hBw (by omega) hT (fun T k hk => ih l[k] (by have := size_in l k hk; omega) (by have := size_in l k hk; omega) T)
    | alt l g cap h hc hg hw h0 =>
      simp only [X3.RX.size] at hn hN hP hmu
      exact lay_alt T S B m b hS w pv AS P l g cap h hg hw hc hM hb hBd hP hmu hBw (by omega) hT (fun T k hk => ih l[k] (by have := size_in l k hk; omega) (by have := size_in l k hk; omega) T)
    | star r g cap h hc hg hw =>
      simp only [X3.RX.size] at hn hN hP hmu
      exact lay_star T S B m b hS w pv AS P r g cap h hg hw hc hM hb hBd hP hmu hBw (by omega) hT (fun T => ih r (by omega) (by omega) T)

theorem lay_any (S : Nat → Prop) (B m : Nat) (hS : ∀ g, S g → g < B) (r : RX) (hN : r.size ≤ 1000000) (T : Nat → Nat) (w : World) (v : Value) (b : Nat) (pv : Value) (AS : List Value) (P : List Pl) (hR : RepS S w r v) (hM : MRep T B m w pv AS P) (hb : b < P.length) (hBd : X3.Bd P P.length) (hP : P.length + r.size * r.size * r.size ≤ 100000000000) (hmu : X3.muL P + 4 * (r.size * r.size * r.size) ≤ 1000000000000) (hBw : B ≤ w.heap.size)
    (hT : ∀ j, P.length ≤ j → j < (X3.layX r b P).2.length → T j = 0) : Calls Tryd.prog 33 #[.pointer (some ⟨m, 0, none⟩), v, .int .i64 (b : Int)] w (LayP T B m w pv AS (X3.layX r b P)) :=
  lay_upto S B m hS r.size r (Nat.le_refl _) hN T w v b pv AS P hR hM hb hBd hP hmu hBw hT
end Go.Proofs.YtochckefnjobhaaDoor
