/- Layer 4's example. -/
import Derived.Test.YtochckefnjobhaaDoorQh
import Derived.Test.YtochckefnjobhaaDoorSa
import Derived.Test.YtochckefnjobhaaDoorQg
namespace Go.Proofs.YtochckefnjobhaaDoor
open Go Go.RowKit Go.Lib
open X3 (RX Pl)
set_option linter.unusedVariables false
set_option linter.unusedSimpArgs false

/-- What Parse returns, whatever the text. -/
theorem parse_gen {w w' : World} {R : Nat ⊕ X3.RX} {e : Ending} (h : ParseP w R e w') : ∃ (k x y z u : Int) (o : Option Addr) (n cc : Nat) (c : Int),
    e = .returned (.tuple #[nodeV k x y z u (.slice o n cc), .int .i64 c]) ∧ Below w.heap.size w w' ∧
    (match R with | .inl c' => c = (c' : Int) | .inr r => c = 0 ∧ RepS (fun g => g < w'.heap.size) w' r (nodeV k x y z u (.slice o n cc))) := by
  cases R with
  | inl c' => exact ⟨0, 0, 0, 0, 0, none, 0, 0, c', h.1, h.2, rfl⟩
  | inr r =>
    obtain ⟨v, rfl, hR, hb⟩ := h
    obtain ⟨k, x, y, z, u, o, n, c, rfl⟩ := hR.shape
    exact ⟨k, x, y, z, u, o, n, c, 0, rfl, hb, rfl, hR.monoS fun g _ hg => hg⟩
/-- A box that holds a regex. -/
def Bx (w : World) (b : Nat) (r : X3.RX) (k x y z u : Int) (o : Option Addr) (n c : Nat) : Prop :=
  w.heap[b]? = some (.cells #[.int .i64 k, .int .u64 x, .int .u64 y, .int .u64 z, .int .u64 u, .slice o n c] 38 (0, 0)) ∧ RepS (fun g => g < w.heap.size) w r (nodeV k x y z u (.slice o n c))
theorem Bx.next {w w' : World} {b : Nat} {r : X3.RX} {k x y z u : Int} {o : Option Addr} {n c : Nat} (h : Bx w b r k x y z u o n c) (hb : Below w.heap.size w w') : Bx w' b r k x y z u o n c :=
  ⟨(hb.block b (Array.getElem?_eq_some_iff.1 h.1).1).trans h.1, (h.2.kept (keepS_below hb)).monoS fun g hg _ => Nat.lt_of_lt_of_le hg hb.size⟩
theorem rep_next {w w' : World} {r : X3.RX} {v : Value} (h : RepS (fun g => g < w.heap.size) w r v) (hb : Below w.heap.size w w') : RepS (fun g => g < w'.heap.size) w' r v :=
  (h.kept (keepS_below hb)).monoS fun g hg _ => Nat.lt_of_lt_of_le hg hb.size
theorem box_new {w : World} {r : X3.RX} {k x y z u : Int} {o : Option Addr} {n c : Nat} (h : RepS (fun g => g < w.heap.size) w r (nodeV k x y z u (.slice o n c))) :
    ∃ wa, w.alloc (.cells #[.int .i64 k, .int .u64 x, .int .u64 y, .int .u64 z, .int .u64 u, .slice o n c] 38) = wa ∧ Bx wa w.heap.size r k x y z u o n c ∧ Below w.heap.size w wa ∧ wa.heap.size = w.heap.size + 1 := by
  have hb : Below w.heap.size w (w.alloc (.cells #[.int .i64 k, .int .u64 x, .int .u64 y, .int .u64 z, .int .u64 u, .slice o n c] 38)) := (Below.refl _ _).alloc (Nat.le_refl _) _
  exact ⟨_, rfl, ⟨new_block _ _, rep_next h hb⟩, hb, by simp⟩
/-- Two regexes side by side. -/
theorem row_two {w : World} {r r2 : X3.RX} {k x y z u k2 x2 y2 z2 u2 : Int} {o o2 : Option Addr} {n c n2 c2 : Nat} (h : RepS (fun g => g < w.heap.size) w r (nodeV k x y z u (.slice o n c))) (h2 : RepS (fun g => g < w.heap.size) w r2 (nodeV k2 x2 y2 z2 u2 (.slice o2 n2 c2))) :
    ∃ wa, w.alloc (.cells #[.int .i64 k, .int .u64 x, .int .u64 y, .int .u64 z, .int .u64 u, .slice o n c, .int .i64 k2, .int .u64 x2, .int .u64 y2, .int .u64 z2, .int .u64 u2, .slice o2 n2 c2] 38) = wa ∧ RowR (fun g => g < wa.heap.size) wa (.slice (some ⟨w.heap.size, 0, none⟩) 2 2) [r, r2] ∧ Below w.heap.size w wa ∧ wa.heap.size = w.heap.size + 1 := by
  have hb : Below w.heap.size w (w.alloc (.cells #[.int .i64 k, .int .u64 x, .int .u64 y, .int .u64 z, .int .u64 u, .slice o n c, .int .i64 k2, .int .u64 x2, .int .u64 y2, .int .u64 z2, .int .u64 u2, .slice o2 n2 c2] 38)) := (Below.refl _ _).alloc (Nat.le_refl _) _
  have hn := new_block w (.cells #[.int .i64 k, .int .u64 x, .int .u64 y, .int .u64 z, .int .u64 u, .slice o n c, .int .i64 k2, .int .u64 x2, .int .u64 y2, .int .u64 z2, .int .u64 u2, .slice o2 n2 c2] 38 (0, 0))
  have hc : ∀ j, _ = _ := fun j => Lib.cell_of_heap hn j
  refine ⟨_, rfl, ⟨.inr ⟨w.heap.size, 2, rfl, by simp, by simp, Nat.le_refl _, ?_⟩⟩, hb, by simp⟩
  exact .cons r _ _ 0 k x y z u _ (rep_next h hb) (hc 0) (hc 1) (hc 2) (hc 3) (hc 4) (hc 5) (.cons r2 _ _ 1 k2 x2 y2 z2 u2 _ (rep_next h2 hb) (hc 6) (hc 7) (hc 8) (hc 9) (hc 10) (hc 11) (.nil _ _))

end Go.Proofs.YtochckefnjobhaaDoor

/- Sizes of a row of regexes; rows that grow. -/
namespace Go.Proofs.YtochckefnjobhaaDoor
open Go Go.RowKit Go.Lib
open X3 (RX Pl)
set_option linter.unusedVariables false
set_option linter.unusedSimpArgs false

theorem RowR.below {w w' : World} {v : Value} {l : List RX} (h : RowR (fun g => g < w.heap.size) w v l) (hb : Below w.heap.size w w') : RowR (fun g => g < w'.heap.size) w' v l := by
  have h1 := h.kept (keepS_below hb)
  refine ⟨h1.sh.imp id fun ⟨g, cap, e, h2, h3, h4, h5⟩ => ⟨g, cap, e, h3, h3, h4, h5.monoS fun g _ hl => hl⟩⟩
theorem RowR.ofRow {B : Nat} {w : World} {v : Value} {l : List RX} (h : RowOf B w v l) : RowR (fun g => g < w.heap.size) w v l := by
  cases l with
  | nil =>
    obtain ⟨VS, h1, h2⟩ := h
    rcases h2.2 with ⟨rfl, _⟩ | ⟨g, cap, cur, rfl, hB, hg, hc, _⟩
    · exact ⟨.inl ⟨rfl, rfl⟩⟩
    · exact ⟨.inr ⟨g, cap, rfl, (Array.getElem?_eq_some_iff.1 hg).1, (Array.getElem?_eq_some_iff.1 hg).1, hc, .nil _ _⟩⟩
  | cons r l =>
    obtain ⟨g, cap, rfl, hB, hg, hc, hl⟩ := h.shape (by simp)
    exact ⟨.inr ⟨g, cap, rfl, hg, hg, hc, hl.monoS fun g _ hl => hl⟩⟩

/-- A row grows by a regex that lies elsewhere. -/
theorem row_push2 {B : Nat} {w3 w4 : World} {v v' : Value} {L : List X3.RX} {VS : List Value} {r : X3.RX} {nv : Value}
    (h1 : Reps (fun x => B ≤ x ∧ some x ≠ v.ownBlock) w3 L VS)
    (hr : RepS (fun x => B ≤ x ∧ some x ≠ v.ownBlock) w3 r nv) (hown : w4.ownsRow B 38 6 v' (L.length + 1) (VS.flatMap ncs ++ ncs nv))
    (hgrow : w3.grownBy w4 v.ownBlock) (hat : v'.ownBlock = v.ownBlock ∨ v'.ownBlock = some w3.heap.size) : RowOf B w4 v' (L ++ [r]) := by
  refine ⟨VS ++ [nv], ?_, ?_⟩
  · have h3 : Reps (fun x => B ≤ x ∧ some x ≠ v.ownBlock) w3 (L ++ [r]) (VS ++ [nv]) := h1.push hr
    have h3' : Reps (fun x => (B ≤ x ∧ some x ≠ v.ownBlock) ∧ x < w3.heap.size) w3 (L ++ [r]) (VS ++ [nv]) := h3.monoS (fun g hg hl => ⟨hg, hl⟩)
    have h4 : Reps (fun x => (B ≤ x ∧ some x ≠ v.ownBlock) ∧ x < w3.heap.size) w4 (L ++ [r]) (VS ++ [nv]) := h3'.kept ⟨hgrow.size, fun g hg hl => hgrow.block g hl hg.1.2⟩
    exact h4.monoS (fun g hg _ => ⟨hg.1.1, by
      rcases hat with e | e
      · rw [e]; exact hg.1.2
      · rw [e]; intro e2; have := Option.some.inj e2; omega⟩)
  · rw [List.flatMap_append, List.length_append]
    simpa using hown
end Go.Proofs.YtochckefnjobhaaDoor

/- Texts that are handed in: Over. -/
namespace Go.Proofs.YtochckefnjobhaaDoor
open Go Go.RowKit Go.Lib
open X3 (RX Pl)
set_option linter.unusedVariables false
set_option linter.unusedSimpArgs false

/-- A row of texts. -/
structure TextsAt (w : World) (v : Value) (l : List ByteArray) : Prop where
  sh : ∃ o c, v = .slice o l.length c ∧ ∀ j (hj : j < l.length), ∃ b off, o = some ⟨b, off, none⟩ ∧ b < w.heap.size ∧ w.cell? ⟨b, off + j, none⟩ = some (.string l[j])
  le : ∀ s ∈ l, s.size ≤ maxLen
  ln : l.length ≤ maxLen
theorem TextsAt.below {w w' : World} {v : Value} {l : List ByteArray} (h : TextsAt w v l) (hb : Below w.heap.size w w') : TextsAt w' v l := by
  obtain ⟨o, c, e, hc⟩ := h.sh
  exact ⟨⟨o, c, e, fun j hj => by
    obtain ⟨b, off, e1, h1, h2⟩ := hc j hj
    exact ⟨b, off, e1, Nat.lt_of_lt_of_le h1 hb.size, (World.cell?_of_block (a := ⟨b, off + j, none⟩) (hb.block b h1)).trans h2⟩⟩, h.le, h.ln⟩

/-- Is there more than is looked at? -/
def overB (l : List ByteArray) : Bool := (l.take 9).any (fun s => decide (40 < s.size)) || decide (8 < l.length)

set_option maxRecDepth 100000 in
set_option maxHeartbeats 4000000 in
theorem over_any (l : List ByteArray) (w : World) (v : Value) (h : TextsAt w v l) : Calls Tryd.prog 16 #[v] w fun e w' => e = .returned (.bool (overB l)) ∧ w' = w := by
  obtain ⟨vo, vc, rfl, hrow⟩ := h.sh
  have hln := h.ln
  unfold maxLen at hln
  have HROW := hid hrow
  clear h hrow
  go_enter Tryd.func16, Tryd.ntmps16
  go_wp2_with fail
  go_loopw [3] (fun t3 wr => ∃ k : Nat, k ≤ l.length ∧ k ≤ 9 ∧ t3 = .int .i64 (k : Int) ∧ Hid ((l.take k).any (fun s => decide (40 < s.size)) = false) ∧ wr = w) (fun t3 _ => 10 - (RowKit.intOf t3).toNat)
  case atStart => exact ⟨0, Nat.zero_le _, Nat.zero_le _, rfl, hid rfl, rfl⟩
  case round =>
    obtain ⟨k, hk, hk9, rfl, HA, rfl⟩ := hrel
    by_cases hlt : k < l.length
    · by_cases h8 : k ≤ 8
      · obtain ⟨b, off, rfl, hbl, hc⟩ := HROW.out k hlt
        have h1 : (k : Int) < (l.length : Int) := by omega
        have h2 : (0 : Int) ≤ (k : Int) := by omega
        have h3 : (k : Int) ≤ 8 := by omega
        have HT : Hid ((l.take (k + 1)).any (fun s => decide (40 < s.size)) = decide (40 < l[k].size)) := hid (by
          rw [List.take_add_one, List.getElem?_eq_getElem hlt, List.any_append, HA.out]; simp)
        by_cases hg : 40 < l[k].size
        · have h4 : (40 : Int) < (l[k].size : Int) := by omega
          have HO : Hid (overB l = true) := hid (by
            unfold overB
            rw [Bool.or_eq_true]
            left
            rw [List.any_eq_true]
            exact ⟨l[k], List.mem_iff_getElem?.2 ⟨k, by rw [List.getElem?_take, if_pos (by omega), List.getElem?_eq_getElem hlt]⟩, by simpa using hg⟩)
          clear hg
          go_wp2_with fail
          go_ret
          exact ⟨by rw [HO.out]; rfl, rfl⟩
        · have h4 : ¬ (40 : Int) < (l[k].size : Int) := by omega
          have hf : decide (40 < l[k].size) = false := by simpa using hg
          rw [hf] at HT
          clear hf hg
          go_wp2_with fail
          refine ⟨⟨k + 1, by omega, by omega, rfl, HT, trivial⟩, ?_⟩
          show 10 - ((k : Int) + 1).toNat < 10 - ((k : Int)).toNat
          omega
      · obtain rfl : k = 9 := by omega
        have h1 : (9 : Int) < (l.length : Int) := by omega
        have h5 : (8 : Int) < (l.length : Int) := by omega
        have HO : Hid (overB l = true) := hid (by unfold overB; rw [Bool.or_eq_true]; right; simp; omega)
        go_wp2_with fail
        go_ret
        exact ⟨by rw [HO.out]; rfl, rfl⟩
    · have h1 : ¬ (k : Int) < (l.length : Int) := by omega
      obtain rfl : k = l.length := by omega
      have HO : Hid (overB l = decide ((8 : Int) < (l.length : Int))) := hid (by
        unfold overB
        have e : (l.take 9).any (fun s => decide (40 < s.size)) = false := by
          have := HA.out
          rw [List.take_length] at this
          rw [List.take_of_length_le hk9]; exact this
        rw [e, Bool.false_or]
        by_cases h : 8 < l.length
        · rw [decide_eq_true h, decide_eq_true (by omega)]
        · rw [decide_eq_false h, decide_eq_false (by omega)])
      go_wp2_with fail
      go_ret
      exact ⟨by rw [HO.out]; rfl, rfl⟩
end Go.Proofs.YtochckefnjobhaaDoor

/- The law NfaMany of package nfa: its walk. -/
namespace Go.Proofs.YtochckefnjobhaaDoor
open Go Go.RowKit Go.Lib
open X3 (RX Pl)
set_option linter.unusedVariables false
set_option linter.unusedSimpArgs false

theorem wp_region_below {P : Program} {id : Nat} {Q : Exit → Act → World → Prop} {a : Act} {w : World} {l : List Oper} (hm : P.follows .mixedOrders = true) (hB : Region.lexB .any l.toArray = true)
    (h : wpQuiet P l.toArray (Below w.heap.size w) (fun a' => ∀ w', Below w.heap.size w w' → Q .normal a' w') l a) : (Code.region id l.toArray true).wp P Q a w :=
  wp_region_quiet (C := Below w.heap.size w) hm hB (below_drewN (Below.refl _ _) 1) (by simpa using h)
theorem below_call {P : Program} {f : FuncId} {args : Array Value} {n : Nat} {w0 w' : World} {v : Value} (hC : Below n w0 w') (hn : n ≤ w0.heap.size) (h : Calls P f args w' fun e w'' => e = .returned v ∧ Below w'.heap.size w' w'') :
    Calls P f args w' fun e w'' => e = .returned v ∧ Below n w0 w'' :=
  h.mono fun _ _ ⟨he, hb⟩ => ⟨he, hC.trans (hb.mono (Nat.le_trans hn hC.size))⟩

theorem parse_size {s : List UInt8} {r : RX} (h : X3.parseX s = .inr r) : r.size ≤ 500 := by
  unfold X3.parseX at h
  split at h
  · cases h
  · split at h
    · cases h
    · split at h
      · cases h
      · split at h
        · cases h
        · injection h with h; subst h; omega
/-- What Parse hands back is some regex, whatever the text. -/
theorem parse_some (s : ByteArray) (w : World) (hm : s.size ≤ maxLen) : ∃ (E : Int) (R : RX), R.size ≤ 500 ∧ Calls Tryd.prog 23 #[.string s] w fun e w' => ∃ (k x y z u : Int) (o : Option Addr) (n cc : Nat), e = .returned (.tuple #[nodeV k x y z u (.slice o n cc), .int .i64 E]) ∧ Below w.heap.size w w' ∧ Rep w.heap.size w' R (nodeV k x y z u (.slice o n cc)) := by
  have hp := parse_any s w hm
  cases hX : X3.parseX (LL s) with
  | inl c =>
    rw [hX] at hp
    refine ⟨(c : Int), .empty, by simp [X3.RX.size], hp.mono ?_⟩
    rintro e w' ⟨rfl, hb⟩
    exact ⟨0, 0, 0, 0, 0, none, 0, 0, rfl, hb, .empty⟩
  | inr r =>
    rw [hX] at hp
    refine ⟨0, r, parse_size hX, hp.mono ?_⟩
    rintro e w' ⟨v, rfl, hR, hb⟩
    obtain ⟨k, x, y, z, u, o, n, c, rfl⟩ := hR.shape
    exact ⟨k, x, y, z, u, o, n, c, rfl, hb, hR⟩

theorem size_rep (R : RX) (n : Nat) : X3.sizeL (List.replicate n R) = n * R.size := by
  induction n with
  | zero => simp [X3.sizeL]
  | succ n ih => rw [List.replicate_succ, X3.sizeL, ih, Nat.add_mul, Nat.one_mul, Nat.add_comm]

end Go.Proofs.YtochckefnjobhaaDoor

/- Texts that are handed in: Parsed. -/
namespace Go.Proofs.YtochckefnjobhaaDoor
open Go Go.RowKit Go.Lib
open X3 (RX Pl)
set_option linter.unusedVariables false
set_option linter.unusedSimpArgs false

/-- The regex of a text, if it is one. -/
def peX (s : ByteArray) : Option RX := match X3.parseX (LL s) with | .inl c => if c = 0 then some .empty else none | .inr r => some r
def treesOf (l : List ByteArray) : List RX := l.filterMap peX
theorem parse_opt (s : ByteArray) (w : World) (hm : s.size ≤ maxLen) : ∃ (E : Int) (R : RX), R.size ≤ 500 ∧ ((E = 0 ∧ peX s = some R) ∨ (E ≠ 0 ∧ peX s = none)) ∧ Calls Tryd.prog 23 #[.string s] w fun e w' => ∃ (k x y z u : Int) (o : Option Addr) (n cc : Nat), e = .returned (.tuple #[nodeV k x y z u (.slice o n cc), .int .i64 E]) ∧ Below w.heap.size w w' ∧ Rep w.heap.size w' R (nodeV k x y z u (.slice o n cc)) := by
  have hp := parse_any s w hm
  unfold peX
  cases hX : X3.parseX (LL s) with
  | inl c =>
    rw [hX] at hp
    refine ⟨(c : Int), .empty, by simp [X3.RX.size], ?_, hp.mono ?_⟩
    · by_cases h : c = 0
      · subst h; exact .inl ⟨rfl, rfl⟩
      · exact .inr ⟨by omega, by simp [h]⟩
    · rintro e w' ⟨rfl, hb⟩
      exact ⟨0, 0, 0, 0, 0, none, 0, 0, rfl, hb, .empty⟩
  | inr r =>
    rw [hX] at hp
    refine ⟨0, r, parse_size hX, .inl ⟨rfl, rfl⟩, hp.mono ?_⟩
    rintro e w' ⟨v, rfl, hR, hb⟩
    obtain ⟨k, x, y, z, u, o, n, c, rfl⟩ := hR.shape
    exact ⟨k, x, y, z, u, o, n, c, rfl, hb, hR⟩

set_option maxRecDepth 100000 in
set_option maxHeartbeats 4000000 in
theorem parsed_any (l : List ByteArray) (w : World) (v : Value) (h : TextsAt w v l) (hl : l.length ≤ 1000) : Calls Tryd.prog 11 #[v] w fun e w' => ∃ rv, e = .returned rv ∧ RowOf w.heap.size w' rv (treesOf l) ∧ Below w.heap.size w w' := by
  obtain ⟨vo, vc, rfl, hrow⟩ := h.sh
  have HT := hid h
  have HROW := hid hrow
  clear h hrow
  go_enter Tryd.func11, Tryd.ntmps11
  go_wp2_with fail
  go_loopw [3, 4] (fun t3 t4 wr => ∃ k : Nat, k ≤ l.length ∧ t4 = .int .i64 (k : Int) ∧ Hid (RowOf w.heap.size wr t3 (treesOf (l.take k))) ∧ Below w.heap.size w wr) (fun _ t4 _ => l.length - (RowKit.intOf t4).toNat)
  case atStart => exact ⟨0, Nat.zero_le _, rfl, hid (RowOf.nil _ _), Below.refl _ _⟩
  case round =>
    obtain ⟨k, hk, rfl, HRow, hB⟩ := hrel
    have hszr := hB.size
    by_cases hlt : k < l.length
    · obtain ⟨b, off, rfl, hbl, hc0⟩ := HROW.out k hlt
      have hc := (World.cell?_of_block (a := ⟨b, off + k, none⟩) (hB.block b hbl)).trans hc0
      have h1 : (k : Int) < (l.length : Int) := by omega
      have h2 : (0 : Int) ≤ (k : Int) := by omega
      obtain ⟨E, R, hRz, hE, hKP⟩ := parse_opt l[k] wr (HT.out.le _ (List.getElem_mem hlt))
      have KP := hid hKP
      have hst : treesOf (l.take (k + 1)) = treesOf (l.take k) ++ (peX l[k]).toList := filterMap_take _ _ _ _
      have hlen : (treesOf (l.take k)).length ≤ k := Nat.le_trans (List.length_filterMap_le _ _) (by simp; omega)
      have HST := hid hst
      have HEE := hid hE
      clear hKP hst hE hc0
      generalize l[k] = t at *
      go_wp2_with fail
      refine KP.out.mono ?_
      rintro e w2 ⟨k', x, y, z, u, o, nn, cc, rfl, hb2, hR⟩
      have hR2 : RepS (fun g => g < w2.heap.size) w2 R (nodeV k' x y z u (.slice o nn cc)) := hR.monoS fun g _ hl => hl
      obtain ⟨wa, ea, hx, hba, hsa⟩ := box_new hR2
      obtain ⟨p0, p1, p2, p3, p4, p5⟩ := cells6 hx.1
      have hs2 := hb2.size
      rcases HEE.out with ⟨rfl, hpe⟩ | ⟨hE, hpe⟩
      · obtain ⟨w3, e3⟩ : ∃ w3, wa.alloc (.cells #[.int .i64 k', .int .u64 x, .int .u64 y, .int .u64 z, .int .u64 u, .slice o nn cc] 38) = w3 := ⟨_, rfl⟩
        have hb3 : Below wa.heap.size wa w3 := by rw [← e3]; exact (Below.refl _ _).alloc (Nat.le_refl _) _
        have hn3 : w3.heap[wa.heap.size]? = some (.cells #[.int .i64 k', .int .u64 x, .int .u64 y, .int .u64 z, .int .u64 u, .slice o nn cc] 38 (0, 0)) := by rw [← e3]; exact new_block _ _
        have hs3 : w3.heap.size = wa.heap.size + 1 := by rw [← e3]; simp
        have hB3 : Below w2.heap.size w2 w3 := hba.trans (hb3.mono (by omega))
        obtain ⟨VS, hreps, hown⟩ := HRow.out.below hb2
        have HOWN := hid (owns_below hown hB3)
        have HREPS := hid hreps
        have HLT := hid HRow.out.lt
        have HRR := hid hR
        have HB3 := hid hB3
        have HBA := hid (hB.trans ((hb2.mono hszr).trans (hB3.mono (Nat.le_trans hszr hs2))))
        obtain ⟨i0, hi, hz0, hz1, hz2⟩ := info_parts info28
        have hw3 : w.heap.size ≤ w3.heap.size := by omega
        have HPE := hid hpe
        have HS3 := hid (And.intro hsa hs3)
        clear hR hR2 hx hba hb3 hB3 hreps hown hpe hsa hs3 hb2 hB
        go_wp2_with (at_builtin; go_loud (refine wpList_append_own_at _ rfl _ _ 24 rfl w.heap.size 38 i0 (.agg zero6) 6 64 Tryd.underlying24 hi hz0 hz1 hz2 rfl (by decide) _ _ _ rfl HOWN.out ⟨wa.heap.size, 0, none⟩ 1 1 [.int .i64 k', .int .u64 x, .int .u64 y, .int .u64 z, .int .u64 u, .slice o nn cc] rfl rfl ?c1 ?c2 ?c3 ?c4 ?c5 ?_))
        case c1 =>
          intro j v hj
          have := Lib.cell_of_heap hn3 j
          first | rw [show (⟨wa.heap.size, 0, none⟩ : Addr).add j = ⟨wa.heap.size, j, none⟩ by simp [Addr.add]; omega] | skip
          rw [this, ← hj]
          simp
        case c2 => first | (intro v hv; simp at hv; rcases hv with rfl | rfl | rfl | rfl | rfl | rfl <;> rfl) | simp [Value.oneCell']
        case c3 => unfold maxLen; omega
        case c4 => omega
        try (case c5 => exact hw3)
        intro v' w4 hown' hgrow hnil hat
        have hrow4 : Hid (RowOf w.heap.size w4 v' (treesOf (l.take (k + 1)))) := hid (by
          rw [HST.out, HPE.out]
          exact row_push HREPS.out HLT.out hszr HRR.out HB3.out hown' hgrow hat)
        have HB4 := hid (HBA.out.grown hgrow hw3 (fun q hq => (HLT.out q hq).1))
        clear hown' hgrow hnil hat hn3 e3
        go_wp2_with fail
        refine ⟨⟨k + 1, by omega, rfl, hrow4, HB4.out⟩, ?_⟩
        show l.length - ((k : Int) + 1).toNat < l.length - ((k : Int)).toNat
        omega
      · have hE2 : (E == 0) = false := by simpa using hE
        have hE3 : decide (E = 0) = false := by simpa using hE
        have HBA := hid (hB.trans ((hb2.trans (hba.mono hs2)).mono hszr))
        have hrow4 : Hid (RowOf w.heap.size wa u3 (treesOf (l.take (k + 1)))) := hid (by
          rw [HST.out, hpe]; simp only [Option.toList_none, List.append_nil]
          exact (HRow.out.below hb2).below hba)
        clear hR hR2 hx hba hpe hE hb2 hB
        go_wp2_with fail
        refine ⟨⟨k + 1, by omega, rfl, hrow4, HBA.out⟩, ?_⟩
        show l.length - ((k : Int) + 1).toNat < l.length - ((k : Int)).toNat
        omega
    · have h1 : ¬ (k : Int) < (l.length : Int) := by omega
      obtain rfl : k = l.length := by omega
      rw [List.take_length] at HRow
      have HB := hid hB
      clear hB
      go_wp2_with fail
      go_ret
      exact ⟨_, rfl, HRow.out, HB.out⟩
end Go.Proofs.YtochckefnjobhaaDoor

/- Where a machine is nowhere it stays nowhere. -/
set_option linter.unusedVariables false
namespace Go.Proofs.YtochckefnjobhaaDoor
open X3 (RX Pl)

theorem none_step {l : List RX} {s : List UInt8} (h : AtN l s []) (x : UInt8) : AtN l (s ++ [x]) [] :=
  h.step ⟨List.Pairwise.nil, fun q => by
    constructor
    · intro hq; cases hq
    · rintro ⟨⟨n, ⟨p, pl, hp, _⟩, _⟩, _⟩; cases hp⟩
theorem none_app {l : List RX} (t : List UInt8) : ∀ {s : List UInt8}, AtN l s [] → AtN l (s ++ t) [] := by
  induction t with
  | nil => intro s h; rw [List.append_nil]; exact h
  | cons x t ih =>
    intro s h
    have := ih (none_step h x)
    rwa [List.append_assoc] at this
theorem none_run {l : List RX} {s : List UInt8} (h : AtN l s []) : RunR l s 0 := ⟨by decide, fun i => X4.run_tags h i⟩
end Go.Proofs.YtochckefnjobhaaDoor

/- The law NfaNothing of package nfa: its walk. -/
namespace Go.Proofs.YtochckefnjobhaaDoor
open Go Go.RowKit Go.Lib
open X3 (RX Pl)
set_option linter.unusedVariables false
set_option linter.unusedSimpArgs false

theorem peX_size {s : ByteArray} {r : RX} (h : peX s = some r) : r.size ≤ 500 := by
  unfold peX at h
  cases hX : X3.parseX (LL s) with
  | inl c => rw [hX] at h; simp at h; rw [← h.2]; simp [X3.RX.size]
  | inr r' => rw [hX] at h; simp at h; subst h; exact parse_size hX
theorem trees_size (l : List ByteArray) : ∀ k (hk : k < (treesOf l).length), (treesOf l)[k].size ≤ 1000000 := fun k hk => by
  have hm := List.getElem_mem hk
  obtain ⟨s, _, hs⟩ := List.mem_filterMap.1 hm
  have := peX_size hs
  omega
theorem over_few {l : List ByteArray} (h : overB l = false) : l.length ≤ 8 := by
  unfold overB at h
  rw [Bool.or_eq_false_iff] at h
  have := h.2
  simp at this
  omega

end Go.Proofs.YtochckefnjobhaaDoor
