/- Texts that are handed in: Parsed. -/
import Derived.Test.YtochckefnjobhaaWd
import Derived.Test.YtochckefnjobhaaWc
namespace Go.Proofs.Ytochckefnjobhaa
open Go Go.RowKit Go.Lib
open X3 (RX Pl)
set_option linter.unusedVariables false
set_option linter.unusedSimpArgs false

/-- The regex of a text, if it is one. -/
def peX (s : ByteArray) : Option RX := match X3.parseX (LL s) with | .inl c => if c = 0 then some .empty else none | .inr r => some r
def treesOf (l : List ByteArray) : List RX := l.filterMap peX
theorem parse_opt (s : ByteArray) (w : World) (hm : s.size ≤ maxLen) : ∃ (E : Int) (R : RX), R.size ≤ 500 ∧ ((E = 0 ∧ peX s = some R) ∨ (E ≠ 0 ∧ peX s = none)) ∧ Calls Try.prog 9 #[.string s] w fun e w' => ∃ (k x y z u : Int) (o : Option Addr) (n cc : Nat), e = .returned (.tuple #[nodeV k x y z u (.slice o n cc), .int .i64 E]) ∧ Below w.heap.size w w' ∧ Rep w.heap.size w' R (nodeV k x y z u (.slice o n cc)) := by
  have hp := parse_any s w hm
  unfold peX
  cases hX : X3.parseX (LL s) with
  | inl c =>
    rw [hX] at hp
    refine ⟨(c : Int), .empty, by simp [X3.RX.size], ?_, hp.mono ?_⟩
    · by_cases h : c = 0
      · subst h; exact .inl ⟨rfl, rfl⟩
      · exact .inr ⟨by omega, by simp [h]⟩
    · rintro e w' ⟨rfl, hb⟩
      exact ⟨0, 0, 0, 0, 0, none, 0, 0, rfl, hb, .empty⟩
  | inr r =>
    rw [hX] at hp
    refine ⟨0, r, parse_size hX, .inl ⟨rfl, rfl⟩, hp.mono ?_⟩
    rintro e w' ⟨v, rfl, hR, hb⟩
    obtain ⟨k, x, y, z, u, o, n, c, rfl⟩ := hR.shape
    exact ⟨k, x, y, z, u, o, n, c, rfl, hb, hR⟩

set_option maxRecDepth 100000 in
set_option maxHeartbeats 4000000 in
theorem parsed_any (l : List ByteArray) (w : World) (v : Value) (h : TextsAt w v l) (hl : l.length ≤ 1000) : Calls Try.prog 15 #[v] w fun e w' => ∃ rv, e = .returned rv ∧ RowOf w.heap.size w' rv (treesOf l) ∧ Below w.heap.size w w' := by
  obtain ⟨vo, vc, rfl, hrow⟩ := h.sh
  have HT := hid h
  have HROW := hid hrow
  clear h hrow
  go_enter Try.func15, Try.ntmps15
  go_wp2_with fail
  go_loopw [3, 4] (fun t3 t4 wr => ∃ k : Nat, k ≤ l.length ∧ t4 = .int .i64 (k : Int) ∧ Hid (RowOf w.heap.size wr t3 (treesOf (l.take k))) ∧ Below w.heap.size w wr) (fun _ t4 _ => l.length - (RowKit.intOf t4).toNat)
  case atStart => exact ⟨0, Nat.zero_le _, rfl, hid (RowOf.nil _ _), Below.refl _ _⟩
  case round =>
    obtain ⟨k, hk, rfl, HRow, hB⟩ := hrel
    have hszr := hB.size
    by_cases hlt : k < l.length
    · obtain ⟨b, off, rfl, hbl, hc0⟩ := HROW.out k hlt
      have hc := (World.cell?_of_block (a := ⟨b, off + k, none⟩) (hB.block b hbl)).trans hc0
      have h1 : (k : Int) < (l.length : Int) := by omega
      have h2 : (0 : Int) ≤ (k : Int) := by omega
      obtain ⟨E, R, hRz, hE, hKP⟩ := parse_opt l[k] wr (HT.out.le _ (List.getElem_mem hlt))
      have KP := hid hKP
      have hst : treesOf (l.take (k + 1)) = treesOf (l.take k) ++ (peX l[k]).toList := filterMap_take _ _ _ _
      have hlen : (treesOf (l.take k)).length ≤ k := Nat.le_trans (List.length_filterMap_le _ _) (by simp; omega)
      have HST := hid hst
      have HEE := hid hE
      clear hKP hst hE hc0
      generalize l[k] = t at *
      go_wp2_with fail
      refine KP.out.mono ?_
      rintro e w2 ⟨k', x, y, z, u, o, nn, cc, rfl, hb2, hR⟩
      have hR2 : RepS (fun g => g < w2.heap.size) w2 R (nodeV k' x y z u (.slice o nn cc)) := hR.monoS fun g _ hl => hl
      obtain ⟨wa, ea, hx, hba, hsa⟩ := box_new hR2
      obtain ⟨p0, p1, p2, p3, p4, p5⟩ := cells6 hx.1
      have hs2 := hb2.size
      rcases HEE.out with ⟨rfl, hpe⟩ | ⟨hE, hpe⟩
      · obtain ⟨w3, e3⟩ : ∃ w3, wa.alloc (.cells #[.int .i64 k', .int .u64 x, .int .u64 y, .int .u64 z, .int .u64 u, .slice o nn cc] 28) = w3 := ⟨_, rfl⟩
        have hb3 : Below wa.heap.size wa w3 := by rw [← e3]; exact (Below.refl _ _).alloc (Nat.le_refl _) _
        have hn3 : w3.heap[wa.heap.size]? = some (.cells #[.int .i64 k', .int .u64 x, .int .u64 y, .int .u64 z, .int .u64 u, .slice o nn cc] 28 (0, 0)) := by rw [← e3]; exact new_block _ _
        have hs3 : w3.heap.size = wa.heap.size + 1 := by rw [← e3]; simp
        have hB3 : Below w2.heap.size w2 w3 := hba.trans (hb3.mono (by omega))
        obtain ⟨VS, hreps, hown⟩ := HRow.out.below hb2
        have HOWN := hid (owns_below hown hB3)
        have HREPS := hid hreps
        have HLT := hid HRow.out.lt
        have HRR := hid hR
        have HB3 := hid hB3
        have HBA := hid (hB.trans ((hb2.mono hszr).trans (hB3.mono (Nat.le_trans hszr hs2))))
        obtain ⟨i0, hi, hz0, hz1, hz2⟩ := info_parts info28
        have hw3 : w.heap.size ≤ w3.heap.size := by omega
        have HPE := hid hpe
        have HS3 := hid (And.intro hsa hs3)
        clear hR hR2 hx hba hb3 hB3 hreps hown hpe hsa hs3 hb2 hB
        go_wp2_with (at_builtin; go_loud (refine wpList_append_own_at _ rfl _ _ 26 rfl w.heap.size 28 i0 (.agg zero6) 6 64 Try.underlying26 hi hz0 hz1 hz2 rfl (by decide) _ _ _ rfl HOWN.out ⟨wa.heap.size, 0, none⟩ 1 1 [.int .i64 k', .int .u64 x, .int .u64 y, .int .u64 z, .int .u64 u, .slice o nn cc] rfl rfl ?c1 ?c2 ?c3 ?c4 ?c5 ?_))
        case c1 =>
          intro j v hj
          have := Lib.cell_of_heap hn3 j
          first | rw [show (⟨wa.heap.size, 0, none⟩ : Addr).add j = ⟨wa.heap.size, j, none⟩ by simp [Addr.add]; omega] | skip
          rw [this, ← hj]
          simp
        case c2 => first | (intro v hv; simp at hv; rcases hv with rfl | rfl | rfl | rfl | rfl | rfl <;> rfl) | simp [Value.oneCell']
        case c3 => unfold maxLen; omega
        case c4 => omega
        try (case c5 => exact hw3)
        intro v' w4 hown' hgrow hnil hat
        have hrow4 : Hid (RowOf w.heap.size w4 v' (treesOf (l.take (k + 1)))) := hid (by
          rw [HST.out, HPE.out]
          exact row_push HREPS.out HLT.out hszr HRR.out HB3.out hown' hgrow hat)
        have HB4 := hid (HBA.out.grown hgrow hw3 (fun q hq => (HLT.out q hq).1))
        clear hown' hgrow hnil hat hn3 e3
        go_wp2_with fail
        refine ⟨⟨k + 1, by omega, rfl, hrow4, HB4.out⟩, ?_⟩
        show l.length - ((k : Int) + 1).toNat < l.length - ((k : Int)).toNat
        omega
      · have hE2 : (E == 0) = false := by simpa using hE
        have hE3 : decide (E = 0) = false := by simpa using hE
        have HBA := hid (hB.trans ((hb2.trans (hba.mono hs2)).mono hszr))
        have hrow4 : Hid (RowOf w.heap.size wa u3 (treesOf (l.take (k + 1)))) := hid (by
          rw [HST.out, hpe]; simp only [Option.toList_none, List.append_nil]
          exact (HRow.out.below hb2).below hba)
        clear hR hR2 hx hba hpe hE hb2 hB
        go_wp2_with fail
        refine ⟨⟨k + 1, by omega, rfl, hrow4, HBA.out⟩, ?_⟩
        show l.length - ((k : Int) + 1).toNat < l.length - ((k : Int)).toNat
        omega
    · have h1 : ¬ (k : Int) < (l.length : Int) := by omega
      obtain rfl : k = l.length := by omega
      rw [List.take_length] at HRow
      have HB := hid hB
      clear hB
      go_wp2_with fail
      go_ret
      exact ⟨_, rfl, HRow.out, HB.out⟩
end Go.Proofs.Ytochckefnjobhaa
