/- Texts that are handed in: Over. -/
import Derived.Test.YtochckefnjobhaaWb
namespace Go.Proofs.Ytochckefnjobhaa
open Go Go.RowKit Go.Lib
open X3 (RX Pl)
set_option linter.unusedVariables false
set_option linter.unusedSimpArgs false

/-- A row of texts. -/
structure TextsAt (w : World) (v : Value) (l : List ByteArray) : Prop where
  sh : ∃ o c, v = .slice o l.length c ∧ ∀ j (hj : j < l.length), ∃ b off, o = some ⟨b, off, none⟩ ∧ b < w.heap.size ∧ w.cell? ⟨b, off + j, none⟩ = some (.string l[j])
  le : ∀ s ∈ l, s.size ≤ maxLen
  ln : l.length ≤ maxLen
theorem TextsAt.below {w w' : World} {v : Value} {l : List ByteArray} (h : TextsAt w v l) (hb : Below w.heap.size w w') : TextsAt w' v l := by
  obtain ⟨o, c, e, hc⟩ := h.sh
  exact ⟨⟨o, c, e, fun j hj => by
    obtain ⟨b, off, e1, h1, h2⟩ := hc j hj
    exact ⟨b, off, e1, Nat.lt_of_lt_of_le h1 hb.size, (World.cell?_of_block (a := ⟨b, off + j, none⟩) (hb.block b h1)).trans h2⟩⟩, h.le, h.ln⟩

/-- Is there more than is looked at? -/
def overB (l : List ByteArray) : Bool := (l.take 9).any (fun s => decide (40 < s.size)) || decide (8 < l.length)

set_option maxRecDepth 100000 in
set_option maxHeartbeats 4000000 in
theorem over_any (l : List ByteArray) (w : World) (v : Value) (h : TextsAt w v l) : Calls Try.prog 14 #[v] w fun e w' => e = .returned (.bool (overB l)) ∧ w' = w := by
  obtain ⟨vo, vc, rfl, hrow⟩ := h.sh
  have hln := h.ln
  unfold maxLen at hln
  have HROW := hid hrow
  clear h hrow
  go_enter Try.func14, Try.ntmps14
  go_wp2_with fail
  go_loopw [3] (fun t3 wr => ∃ k : Nat, k ≤ l.length ∧ k ≤ 9 ∧ t3 = .int .i64 (k : Int) ∧ Hid ((l.take k).any (fun s => decide (40 < s.size)) = false) ∧ wr = w) (fun t3 _ => 10 - (RowKit.intOf t3).toNat)
  case atStart => exact ⟨0, Nat.zero_le _, Nat.zero_le _, rfl, hid rfl, rfl⟩
  case round =>
    obtain ⟨k, hk, hk9, rfl, HA, rfl⟩ := hrel
    by_cases hlt : k < l.length
    · by_cases h8 : k ≤ 8
      · obtain ⟨b, off, rfl, hbl, hc⟩ := HROW.out k hlt
        have h1 : (k : Int) < (l.length : Int) := by omega
        have h2 : (0 : Int) ≤ (k : Int) := by omega
        have h3 : (k : Int) ≤ 8 := by omega
        have HT : Hid ((l.take (k + 1)).any (fun s => decide (40 < s.size)) = decide (40 < l[k].size)) := hid (by
          rw [List.take_add_one, List.getElem?_eq_getElem hlt, List.any_append, HA.out]; simp)
        by_cases hg : 40 < l[k].size
        · have h4 : (40 : Int) < (l[k].size : Int) := by omega
          have HO : Hid (overB l = true) := hid (by
            unfold overB
            rw [Bool.or_eq_true]
            left
            rw [List.any_eq_true]
            exact ⟨l[k], List.mem_iff_getElem?.2 ⟨k, by rw [List.getElem?_take, if_pos (by omega), List.getElem?_eq_getElem hlt]⟩, by simpa using hg⟩)
          clear hg
          go_wp2_with fail
          go_ret
          exact ⟨by rw [HO.out]; rfl, rfl⟩
        · have h4 : ¬ (40 : Int) < (l[k].size : Int) := by omega
          have hf : decide (40 < l[k].size) = false := by simpa using hg
          rw [hf] at HT
          clear hf hg
          go_wp2_with fail
          refine ⟨⟨k + 1, by omega, by omega, rfl, HT, trivial⟩, ?_⟩
          show 10 - ((k : Int) + 1).toNat < 10 - ((k : Int)).toNat
          omega
      · obtain rfl : k = 9 := by omega
        have h1 : (9 : Int) < (l.length : Int) := by omega
        have h5 : (8 : Int) < (l.length : Int) := by omega
        have HO : Hid (overB l = true) := hid (by unfold overB; rw [Bool.or_eq_true]; right; simp; omega)
        go_wp2_with fail
        go_ret
        exact ⟨by rw [HO.out]; rfl, rfl⟩
    · have h1 : ¬ (k : Int) < (l.length : Int) := by omega
      obtain rfl : k = l.length := by omega
      have HO : Hid (overB l = decide ((8 : Int) < (l.length : Int))) := hid (by
        unfold overB
        have e : (l.take 9).any (fun s => decide (40 < s.size)) = false := by
          have := HA.out
          rw [List.take_length] at this
          rw [List.take_of_length_le hk9]; exact this
        rw [e, Bool.false_or]
        by_cases h : 8 < l.length
        · rw [decide_eq_true h, decide_eq_true (by omega)]
        · rw [decide_eq_false h, decide_eq_false (by omega)])
      go_wp2_with fail
      go_ret
      exact ⟨by rw [HO.out]; rfl, rfl⟩
end Go.Proofs.Ytochckefnjobhaa
