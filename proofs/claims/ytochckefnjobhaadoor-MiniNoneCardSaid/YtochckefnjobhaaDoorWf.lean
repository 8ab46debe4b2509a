/- Layer 4's example. -/
import Derived.Test.YtochckefnjobhaaDoorQh
import Derived.Test.YtochckefnjobhaaDoorSa
import Derived.Test.YtochckefnjobhaaDoorQg
namespace Go.Proofs.YtochckefnjobhaaDoor
open Go Go.RowKit Go.Lib
open X3 (RX Pl)
set_option linter.unusedVariables false
set_option linter.unusedSimpArgs false

/-- What Parse returns, whatever the text. -/
theorem parse_gen {w w' : World} {R : Nat ⊕ X3.RX} {e : Ending} (h : ParseP w R e w') : ∃ (k x y z u : Int) (o : Option Addr) (n cc : Nat) (c : Int),
    e = .returned (.tuple #[nodeV k x y z u (.slice o n cc), .int .i64 c]) ∧ Below w.heap.size w w' ∧
    (match R with | .inl c' => c = (c' : Int) | .inr r => c = 0 ∧ RepS (fun g => g < w'.heap.size) w' r (nodeV k x y z u (.slice o n cc))) := by
  cases R with
  | inl c' => exact ⟨0, 0, 0, 0, 0, none, 0, 0, c', h.1, h.2, rfl⟩
  | inr r =>
    obtain ⟨v, rfl, hR, hb⟩ := h
    obtain ⟨k, x, y, z, u, o, n, c, rfl⟩ := hR.shape
    exact ⟨k, x, y, z, u, o, n, c, 0, rfl, hb, rfl, hR.monoS fun g _ hg => hg⟩
/-- A box that holds a regex. -/
def Bx (w : World) (b : Nat) (r : X3.RX) (k x y z u : Int) (o : Option Addr) (n c : Nat) : Prop :=
  w.heap[b]? = some (.cells #[.int .i64 k, .int .u64 x, .int .u64 y, .int .u64 z, .int .u64 u, .slice o n c] 38 (0, 0)) ∧ RepS (fun g => g < w.heap.size) w r (nodeV k x y z u (.slice o n c))
theorem Bx.next {w w' : World} {b : Nat} {r : X3.RX} {k x y z u : Int} {o : Option Addr} {n c : Nat} (h : Bx w b r k x y z u o n c) (hb : Below w.heap.size w w') : Bx w' b r k x y z u o n c :=
  ⟨(hb.block b (Array.getElem?_eq_some_iff.1 h.1).1).trans h.1, (h.2.kept (keepS_below hb)).monoS fun g hg _ => Nat.lt_of_lt_of_le hg hb.size⟩
theorem rep_next {w w' : World} {r : X3.RX} {v : Value} (h : RepS (fun g => g < w.heap.size) w r v) (hb : Below w.heap.size w w') : RepS (fun g => g < w'.heap.size) w' r v :=
  (h.kept (keepS_below hb)).monoS fun g hg _ => Nat.lt_of_lt_of_le hg hb.size
theorem box_new {w : World} {r : X3.RX} {k x y z u : Int} {o : Option Addr} {n c : Nat} (h : RepS (fun g => g < w.heap.size) w r (nodeV k x y z u (.slice o n c))) :
    ∃ wa, w.alloc (.cells #[.int .i64 k, .int .u64 x, .int .u64 y, .int .u64 z, .int .u64 u, .slice o n c] 38) = wa ∧ Bx wa w.heap.size r k x y z u o n c ∧ Below w.heap.size w wa ∧ wa.heap.size = w.heap.size + 1 := by
  have hb : Below w.heap.size w (w.alloc (.cells #[.int .i64 k, .int .u64 x, .int .u64 y, .int .u64 z, .int .u64 u, .slice o n c] 38)) := (Below.refl _ _).alloc (Nat.le_refl _) _
  exact ⟨_, rfl, ⟨new_block _ _, rep_next h hb⟩, hb, by simp⟩
end Go.Proofs.YtochckefnjobhaaDoor

/- Sizes of a row of regexes; rows that grow. -/
namespace Go.Proofs.YtochckefnjobhaaDoor
open Go Go.RowKit Go.Lib
open X3 (RX Pl)
set_option linter.unusedVariables false
set_option linter.unusedSimpArgs false

theorem RowR.below {w w' : World} {v : Value} {l : List RX} (h : RowR (fun g => g < w.heap.size) w v l) (hb : Below w.heap.size w w') : RowR (fun g => g < w'.heap.size) w' v l := by
  have h1 := h.kept (keepS_below hb)
  refine ⟨h1.sh.imp id fun ⟨g, cap, e, h2, h3, h4, h5⟩ => ⟨g, cap, e, h3, h3, h4, h5.monoS fun g _ hl => hl⟩⟩
theorem RowR.ofRow {B : Nat} {w : World} {v : Value} {l : List RX} (h : RowOf B w v l) : RowR (fun g => g < w.heap.size) w v l := by
  cases l with
  | nil =>
    obtain ⟨VS, h1, h2⟩ := h
    rcases h2.2 with ⟨rfl, _⟩ | ⟨g, cap, cur, rfl, hB, hg, hc, _⟩
    · exact ⟨.inl ⟨rfl, rfl⟩⟩
    · exact ⟨.inr ⟨g, cap, rfl, (Array.getElem?_eq_some_iff.1 hg).1, (Array.getElem?_eq_some_iff.1 hg).1, hc, .nil _ _⟩⟩
  | cons r l =>
    obtain ⟨g, cap, rfl, hB, hg, hc, hl⟩ := h.shape (by simp)
    exact ⟨.inr ⟨g, cap, rfl, hg, hg, hc, hl.monoS fun g _ hl => hl⟩⟩

end Go.Proofs.YtochckefnjobhaaDoor

/- Texts that are handed in: Over. -/
namespace Go.Proofs.YtochckefnjobhaaDoor
open Go Go.RowKit Go.Lib
open X3 (RX Pl)
set_option linter.unusedVariables false
set_option linter.unusedSimpArgs false

/-- A row of texts. -/
structure TextsAt (w : World) (v : Value) (l : List ByteArray) : Prop where
  sh : ∃ o c, v = .slice o l.length c ∧ ∀ j (hj : j < l.length), ∃ b off, o = some ⟨b, off, none⟩ ∧ b < w.heap.size ∧ w.cell? ⟨b, off + j, none⟩ = some (.string l[j])
  le : ∀ s ∈ l, s.size ≤ maxLen
  ln : l.length ≤ maxLen
theorem TextsAt.below {w w' : World} {v : Value} {l : List ByteArray} (h : TextsAt w v l) (hb : Below w.heap.size w w') : TextsAt w' v l := by
  obtain ⟨o, c, e, hc⟩ := h.sh
  exact ⟨⟨o, c, e, fun j hj => by
    obtain ⟨b, off, e1, h1, h2⟩ := hc j hj
    exact ⟨b, off, e1, Nat.lt_of_lt_of_le h1 hb.size, (World.cell?_of_block (a := ⟨b, off + j, none⟩) (hb.block b h1)).trans h2⟩⟩, h.le, h.ln⟩

end Go.Proofs.YtochckefnjobhaaDoor

/- The law NfaMany of package nfa: its walk. -/
namespace Go.Proofs.YtochckefnjobhaaDoor
open Go Go.RowKit Go.Lib
open X3 (RX Pl)
set_option linter.unusedVariables false
set_option linter.unusedSimpArgs false

theorem parse_size {s : List UInt8} {r : RX} (h : X3.parseX s = .inr r) : r.size ≤ 500 := by
  unfold X3.parseX at h
  split at h
  · cases h
  · split at h
    · cases h
    · split at h
      · cases h
      · split at h
        · cases h
        · injection h with h; subst h; omega
end Go.Proofs.YtochckefnjobhaaDoor

/- Texts that are handed in: Parsed. -/
namespace Go.Proofs.YtochckefnjobhaaDoor
open Go Go.RowKit Go.Lib
open X3 (RX Pl)
set_option linter.unusedVariables false
set_option linter.unusedSimpArgs false

/-- The regex of a text, if it is one. -/
def peX (s : ByteArray) : Option RX := match X3.parseX (LL s) with | .inl c => if c = 0 then some .empty else none | .inr r => some r
end Go.Proofs.YtochckefnjobhaaDoor

/- Where a machine is nowhere it stays nowhere. -/
set_option linter.unusedVariables false
namespace Go.Proofs.YtochckefnjobhaaDoor
open X3 (RX Pl)

theorem none_step {l : List RX} {s : List UInt8} (h : AtN l s []) (x : UInt8) : AtN l (s ++ [x]) [] :=
  h.step ⟨List.Pairwise.nil, fun q => by
    constructor
    · intro hq; cases hq
    · rintro ⟨⟨n, ⟨p, pl, hp, _⟩, _⟩, _⟩; cases hp⟩
theorem none_run {l : List RX} {s : List UInt8} (h : AtN l s []) : RunR l s 0 := ⟨by decide, fun i => X4.run_tags h i⟩
end Go.Proofs.YtochckefnjobhaaDoor

/- The law NfaNothing of package nfa: its walk. -/
namespace Go.Proofs.YtochckefnjobhaaDoor
open Go Go.RowKit Go.Lib
open X3 (RX Pl)
set_option linter.unusedVariables false
set_option linter.unusedSimpArgs false

theorem peX_size {s : ByteArray} {r : RX} (h : peX s = some r) : r.size ≤ 500 := by
  unfold peX at h
  cases hX : X3.parseX (LL s) with
  | inl c => rw [hX] at h; simp at h; rw [← h.2]; simp [X3.RX.size]
  | inr r' => rw [hX] at h; simp at h; subst h; exact parse_size hX
end Go.Proofs.YtochckefnjobhaaDoor
