/- Layer 4's example. -/
import Derived.Test.YtochckefnjobhaaGreatDoorQh
import Derived.Test.YtochckefnjobhaaGreatDoorSa
import Derived.Test.YtochckefnjobhaaGreatDoorQg
namespace Go.Proofs.YtochckefnjobhaaGreatDoor
open Go Go.RowKit Go.Lib
open X3 (RX Pl)
set_option linter.unusedVariables false
set_option linter.unusedSimpArgs false
theorem parse_gen {w w' : World} {R : Nat ⊕ X3.RX} {e : Ending} (h : ParseP w R e w') : ∃ (k x y z u : Int) (o : Option Addr) (n cc : Nat) (c : Int),
  e = .returned (.tuple #[nodeV k x y z u (.slice o n cc), .int .i64 c]) ∧ Below w.heap.size w w' ∧
  (match R with | .inl c' => c = (c' : Int) | .inr r => c = 0 ∧ RepS (fun g => g < w'.heap.size) w' r (nodeV k x y z u (.slice o n cc))) := by
 cases R with
 | inl c' => exact ⟨0, 0, 0, 0, 0, none, 0, 0, c', h.1, h.2, rfl⟩
 | inr r =>
  obtain ⟨v, rfl, hR, hb⟩ := h
  obtain ⟨k, x, y, z, u, o, n, c, rfl⟩ := hR.shape
  exact ⟨k, x, y, z, u, o, n, c, 0, rfl, hb, rfl, hR.monoS fun g _ hg => hg⟩
def Bx (w : World) (b : Nat) (r : X3.RX) (k x y z u : Int) (o : Option Addr) (n c : Nat) : Prop :=
 w.heap[b]? = some (.cells #[.int .i64 k, .int .u64 x, .int .u64 y, .int .u64 z, .int .u64 u, .slice o n c] 46 (0, 0)) ∧ RepS (fun g => g < w.heap.size) w r (nodeV k x y z u (.slice o n c))
theorem Bx.next {w w' : World} {b : Nat} {r : X3.RX} {k x y z u : Int} {o : Option Addr} {n c : Nat} (h : Bx w b r k x y z u o n c) (hb : Below w.heap.size w w') : Bx w' b r k x y z u o n c :=
 ⟨(hb.block b (Array.getElem?_eq_some_iff.1 h.1).1).trans h.1, (h.2.kept (keepS_below hb)).monoS fun g hg _ => Nat.lt_of_lt_of_le hg hb.size⟩
theorem rep_next {w w' : World} {r : X3.RX} {v : Value} (h : RepS (fun g => g < w.heap.size) w r v) (hb : Below w.heap.size w w') : RepS (fun g => g < w'.heap.size) w' r v :=
 (h.kept (keepS_below hb)).monoS fun g hg _ => Nat.lt_of_lt_of_le hg hb.size
theorem box_new {w : World} {r : X3.RX} {k x y z u : Int} {o : Option Addr} {n c : Nat} (h : RepS (fun g => g < w.heap.size) w r (nodeV k x y z u (.slice o n c))) :
  ∃ wa, w.alloc (.cells #[.int .i64 k, .int .u64 x, .int .u64 y, .int .u64 z, .int .u64 u, .slice o n c] 46) = wa ∧ Bx wa w.heap.size r k x y z u o n c ∧ Below w.heap.size w wa ∧ wa.heap.size = w.heap.size + 1 := by
 have hb : Below w.heap.size w (w.alloc (.cells #[.int .i64 k, .int .u64 x, .int .u64 y, .int .u64 z, .int .u64 u, .slice o n c] 46)) := (Below.refl _ _).alloc (Nat.le_refl _) _
 exact ⟨_, rfl, ⟨new_block _ _, rep_next h hb⟩, hb, by simp⟩
end Go.Proofs.YtochckefnjobhaaGreatDoor
namespace Go.Proofs.YtochckefnjobhaaGreatDoor
open Go Go.RowKit Go.Lib
open X3 (RX Pl)
set_option linter.unusedVariables false
set_option linter.unusedSimpArgs false
theorem RowR.below {w w' : World} {v : Value} {l : List RX} (h : RowR (fun g => g < w.heap.size) w v l) (hb : Below w.heap.size w w') : RowR (fun g => g < w'.heap.size) w' v l := by
 have h1 := h.kept (keepS_below hb)
 refine ⟨h1.sh.imp id fun ⟨g, cap, e, h2, h3, h4, h5⟩ => ⟨g, cap, e, h3, h3, h4, h5.monoS fun g _ hl => hl⟩⟩
theorem RowR.ofRow {B : Nat} {w : World} {v : Value} {l : List RX} (h : RowOf B w v l) : RowR (fun g => g < w.heap.size) w v l := by
 cases l with
 | nil =>
  obtain ⟨VS, h1, h2⟩ := h
  rcases h2.2 with ⟨rfl, _⟩ | ⟨g, cap, cur, rfl, hB, hg, hc, _⟩
  ·exact ⟨.inl ⟨rfl, rfl⟩⟩
  ·exact ⟨.inr ⟨g, cap, rfl, (Array.getElem?_eq_some_iff.1 hg).1, (Array.getElem?_eq_some_iff.1 hg).1, hc, .nil _ _⟩⟩
 | cons r l =>
  obtain ⟨g, cap, rfl, hB, hg, hc, hl⟩ := h.shape (by simp)
  exact ⟨.inr ⟨g, cap, rfl, hg, hg, hc, hl.monoS fun g _ hl => hl⟩⟩
end Go.Proofs.YtochckefnjobhaaGreatDoor
namespace Go.Proofs.YtochckefnjobhaaGreatDoor
open Go Go.RowKit Go.Lib
open X3 (RX Pl)
set_option linter.unusedVariables false
set_option linter.unusedSimpArgs false
structure TextsAt (w : World) (v : Value) (l : List ByteArray) : Prop where
 sh : ∃ o c, v = .slice o l.length c ∧ ∀ j (hj : j < l.length), ∃ b off, o = some ⟨b, off, none⟩ ∧ b < w.heap.size ∧ w.cell? ⟨b, off + j, none⟩ = some (.string l[j])
 le : ∀ s ∈ l, s.size ≤ maxLen
 ln : l.length ≤ maxLen
theorem TextsAt.below {w w' : World} {v : Value} {l : List ByteArray} (h : TextsAt w v l) (hb : Below w.heap.size w w') : TextsAt w' v l := by
 obtain ⟨o, c, e, hc⟩ := h.sh
 exact ⟨⟨o, c, e, fun j hj => by
  obtain ⟨b, off, e1, h1, h2⟩ := hc j hj
  exact ⟨b, off, e1, Nat.lt_of_lt_of_le h1 hb.size, (World.cell?_of_block (a := ⟨b, off + j, none⟩) (hb.block b h1)).trans h2⟩⟩, h.le, h.ln⟩
def overB (l : List ByteArray) : Bool := (l.take 9).any (fun s => decide (40 < s.size)) || decide (8 < l.length)
set_option maxRecDepth 100000 in
set_option maxHeartbeats 4000000 in
theorem over_any (l : List ByteArray) (w : World) (v : Value) (h : TextsAt w v l) : Calls Tryz.prog 17 #[v] w fun e w' => e = .returned (.bool (overB l)) ∧ w' = w := by
 obtain ⟨vo, vc, rfl, hrow⟩ := h.sh
 have hln := h.ln
 unfold maxLen at hln
 have HROW := hid hrow
 clear h hrow
 go_enter Tryz.func17, Tryz.ntmps17
 go_wp2_with fail
 go_loopw [3] (fun t3 wr => ∃ k : Nat, k ≤ l.length ∧ k ≤ 9 ∧ t3 = .int .i64 (k : Int) ∧ Hid ((l.take k).any (fun s => decide (40 < s.size)) = false) ∧ wr = w) (fun t3 _ => 10 - (RowKit.intOf t3).toNat)
 case atStart => exact ⟨0, Nat.zero_le _, Nat.zero_le _, rfl, hid rfl, rfl⟩
 case round =>
  obtain ⟨k, hk, hk9, rfl, HA, rfl⟩ := hrel
  by_cases hlt : k < l.length
  ·by_cases h8 : k ≤ 8
   ·obtain ⟨b, off, rfl, hbl, hc⟩ := HROW.out k hlt
    have h1 : (k : Int) < (l.length : Int) := by omega
    have h2 : (0 : Int) ≤ (k : Int) := by omega
    have h3 : (k : Int) ≤ 8 := by omega
    have HT : Hid ((l.take (k + 1)).any (fun s => decide (40 < s.size)) = decide (40 < l[k].size)) := hid (by
     rw [List.take_add_one, List.getElem?_eq_getElem hlt, List.any_append, HA.out]; simp)
    by_cases hg : 40 < l[k].size
    ·have h4 : (40 : Int) < (l[k].size : Int) := by omega
     have HO : Hid (overB l = true) := hid (by
      unfold overB
      rw [Bool.or_eq_true]
      left
      rw [List.any_eq_true]
      exact ⟨l[k], List.mem_iff_getElem?.2 ⟨k, by rw [List.getElem?_take, if_pos (by omega), List.getElem?_eq_getElem hlt]⟩, by simpa using hg⟩)
     clear hg
     go_wp2_with fail
     go_ret
     exact ⟨by rw [HO.out]; rfl, rfl⟩
    ·have h4 : ¬ (40 : Int) < (l[k].size : Int) := by omega
     have hf : decide (40 < l[k].size) = false := by simpa using hg
     rw [hf] at HT
     clear hf hg
     go_wp2_with fail
     refine ⟨⟨k + 1, by omega, by omega, rfl, HT, trivial⟩, ?_⟩
     show 10 - ((k : Int) + 1).toNat < 10 - ((k : Int)).toNat
     omega
   ·obtain rfl : k = 9 := by omega
    have h1 : (9 : Int) < (l.length : Int) := by omega
    have h5 : (8 : Int) < (l.length : Int) := by omega
    have HO : Hid (overB l = true) := hid (by unfold overB; rw [Bool.or_eq_true]; right; simp; omega)
    go_wp2_with fail
    go_ret
    exact ⟨by rw [HO.out]; rfl, rfl⟩
  ·have h1 : ¬ (k : Int) < (l.length : Int) := by omega
   obtain rfl : k = l.length := by omega
   have HO : Hid (overB l = decide ((8 : Int) < (l.length : Int))) := hid (by
    unfold overB
    have e : (l.take 9).any (fun s => decide (40 < s.size)) = false := by
     have := HA.out
     rw [List.take_length] at this
     rw [List.take_of_length_le hk9]; exact this
    rw [e, Bool.false_or]
    by_cases h : 8 < l.length
    ·rw [decide_eq_true h, decide_eq_true (by omega)]
    ·rw [decide_eq_false h, decide_eq_false (by omega)])
   go_wp2_with fail
   go_ret
   exact ⟨by rw [HO.out]; rfl, rfl⟩
end Go.Proofs.YtochckefnjobhaaGreatDoor
namespace Go.Proofs.YtochckefnjobhaaGreatDoor
open Go Go.RowKit Go.Lib
open X3 (RX Pl)
set_option linter.unusedVariables false
set_option linter.unusedSimpArgs false
theorem wp_region_below {P : Program} {id : Nat} {Q : Exit → Act → World → Prop} {a : Act} {w : World} {l : List Oper} (hm : P.follows .mixedOrders = true) (hB : Region.lexB .any l.toArray = true)
  (h : wpQuiet P l.toArray (Below w.heap.size w) (fun a' => ∀ w', Below w.heap.size w w' → Q .normal a' w') l a) : (Code.region id l.toArray true).wp P Q a w :=
 wp_region_quiet (C := Below w.heap.size w) hm hB (below_drewN (Below.refl _ _) 1) (by simpa using h)
theorem below_call {P : Program} {f : FuncId} {args : Array Value} {n : Nat} {w0 w' : World} {v : Value} (hC : Below n w0 w') (hn : n ≤ w0.heap.size) (h : Calls P f args w' fun e w'' => e = .returned v ∧ Below w'.heap.size w' w'') :
  Calls P f args w' fun e w'' => e = .returned v ∧ Below n w0 w'' :=
 h.mono fun _ _ ⟨he, hb⟩ => ⟨he, hC.trans (hb.mono (Nat.le_trans hn hC.size))⟩
theorem parse_size {s : List UInt8} {r : RX} (h : X3.parseX s = .inr r) : r.size ≤ 500 := by
 unfold X3.parseX at h
 split at h
 ·cases h
 ·split at h
  ·cases h
  ·split at h
   ·cases h
   ·split at h
    ·cases h
    ·injection h with h; subst h; omega
end Go.Proofs.YtochckefnjobhaaGreatDoor
namespace Go.Proofs.YtochckefnjobhaaGreatDoor
open Go Go.RowKit Go.Lib
open X3 (RX Pl)
set_option linter.unusedVariables false
set_option linter.unusedSimpArgs false
def peX (s : ByteArray) : Option RX := match X3.parseX (LL s) with | .inl c => if c = 0 then some .empty else none | .inr r => some r
end Go.Proofs.YtochckefnjobhaaGreatDoor
set_option linter.unusedVariables false
namespace Go.Proofs.YtochckefnjobhaaGreatDoor
open X3 (RX Pl)
theorem none_step {l : List RX} {s : List UInt8} (h : AtN l s []) (x : UInt8) : AtN l (s ++ [x]) [] :=
 h.step ⟨List.Pairwise.nil, fun q => by
  constructor
  ·intro hq; cases hq
  ·rintro ⟨⟨n, ⟨p, pl, hp, _⟩, _⟩, _⟩; cases hp⟩
theorem none_run {l : List RX} {s : List UInt8} (h : AtN l s []) : RunR l s 0 := ⟨by decide, fun i => X4.run_tags h i⟩
end Go.Proofs.YtochckefnjobhaaGreatDoor
namespace Go.Proofs.YtochckefnjobhaaGreatDoor
open Go Go.RowKit Go.Lib
open X3 (RX Pl)
set_option linter.unusedVariables false
set_option linter.unusedSimpArgs false
theorem peX_size {s : ByteArray} {r : RX} (h : peX s = some r) : r.size ≤ 500 := by
 unfold peX at h
 cases hX : X3.parseX (LL s) with
 | inl c => rw [hX] at h; simp at h; rw [← h.2]; simp [X3.RX.size]
 | inr r' => rw [hX] at h; simp at h; subst h; exact parse_size hX
end Go.Proofs.YtochckefnjobhaaGreatDoor
