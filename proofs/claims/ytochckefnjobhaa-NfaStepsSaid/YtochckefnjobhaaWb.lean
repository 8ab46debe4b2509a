/- Sizes of a row of regexes; rows that grow. -/
import Derived.Test.YtochckefnjobhaaWa
namespace Go.Proofs.Ytochckefnjobhaa
open Go Go.RowKit Go.Lib
open X3 (RX Pl)
set_option linter.unusedVariables false
set_option linter.unusedSimpArgs false

theorem RowR.below {w w' : World} {v : Value} {l : List RX} (h : RowR (fun g => g < w.heap.size) w v l) (hb : Below w.heap.size w w') : RowR (fun g => g < w'.heap.size) w' v l := by
  have h1 := h.kept (keepS_below hb)
  refine ⟨h1.sh.imp id fun ⟨g, cap, e, h2, h3, h4, h5⟩ => ⟨g, cap, e, h3, h3, h4, h5.monoS fun g _ hl => hl⟩⟩
theorem RowR.ofRow {B : Nat} {w : World} {v : Value} {l : List RX} (h : RowOf B w v l) : RowR (fun g => g < w.heap.size) w v l := by
  cases l with
  | nil =>
    obtain ⟨VS, h1, h2⟩ := h
    rcases h2.2 with ⟨rfl, _⟩ | ⟨g, cap, cur, rfl, hB, hg, hc, _⟩
    · exact ⟨.inl ⟨rfl, rfl⟩⟩
    · exact ⟨.inr ⟨g, cap, rfl, (Array.getElem?_eq_some_iff.1 hg).1, (Array.getElem?_eq_some_iff.1 hg).1, hc, .nil _ _⟩⟩
  | cons r l =>
    obtain ⟨g, cap, rfl, hB, hg, hc, hl⟩ := h.shape (by simp)
    exact ⟨.inr ⟨g, cap, rfl, hg, hg, hc, hl.monoS fun g _ hl => hl⟩⟩

set_option maxRecDepth 100000 in
set_option maxHeartbeats 4000000 in
theorem sizes_any (l : List RX) (w : World) (v : Value) (h : RowR (fun g => g < w.heap.size) w v l) (hN : ∀ k (hk : k < l.length), l[k].size ≤ 1000000) (hll : X3.sizeL l ≤ 1000000000) :
    Calls Try.prog 11 #[v] w fun e w' => e = .returned (.int .i64 (X3.sizeL l : Nat)) ∧ Below w.heap.size w w' := by
  obtain ⟨vo, vc, rfl⟩ := h.shape
  have HR := hid h
  have HN := hid hN
  have hlen := length_le_sizeL l
  clear h hN
  go_enter Try.func11, Try.ntmps11
  go_wp2_with fail
  go_loopw [3, 4] (fun t3 t4 wr => ∃ k N : Nat, k ≤ l.length ∧ t4 = .int .i64 (k : Int) ∧ t3 = .int .i64 (N : Int) ∧ Hid (N = X3.sizeL (l.take k)) ∧ Below w.heap.size w wr) (fun _ t4 _ => l.length - (RowKit.intOf t4).toNat)
  case atStart => exact ⟨0, 0, Nat.zero_le _, rfl, rfl, hid (by simp [X3.sizeL]), Below.refl _ _⟩
  case round =>
    obtain ⟨k, N, hk, rfl, rfl, HL, hB⟩ := hrel
    by_cases hlt : k < l.length
    · obtain ⟨g, kd', x', y', z', u', ko, kn, kc, rfl, hR, c0, c1, c2, c3, c4, c5⟩ := (HR.out.below hB).at_ k hlt
      have h2 : (k : Int) < (l.length : Int) := by omega
      have h3 : (0 : Int) ≤ (k : Int) := by omega
      have hst := sizeL_take l k hlt
      have hle := sizeL_le l (k + 1)
      have HLN : Hid (N + l[k].size = X3.sizeL (l.take (k + 1))) := hid (by have := HL.out; omega)
      have hNb : N + l[k].size ≤ 1000000000 := by have := HL.out; omega
      have KI := hid (sizeR_any (fun g => g < wr.heap.size) l[k].size wr l[k] _ (Nat.le_refl _) (by have := HN.out k hlt; omega) hR)
      have HB := hid hB
      have hsz := hB.size
      clear hR hB hst
      generalize l[k].size = M at *
      have a0 : (0 : Int) ≤ (N : Int) + (M : Int) := by omega
      have a1 : (N : Int) + (M : Int) < 9223372036854775808 := by omega
      go_wp2_with fail
      refine KI.out.mono ?_
      rintro e w2 ⟨rfl, hb2⟩
      have HB2 := hid hb2
      clear hb2
      go_wp2_with fail
      refine ⟨⟨k + 1, N + M, by omega, rfl, rfl, HLN, HB.out.trans (HB2.out.mono hsz)⟩, ?_⟩
      show l.length - ((k : Int) + 1).toNat < l.length - ((k : Int)).toNat
      omega
    · have h2 : ¬ (k : Int) < (l.length : Int) := by omega
      obtain rfl : k = l.length := by omega
      rw [List.take_length] at HL
      have HB := hid hB
      clear hB
      go_wp2_with fail
      go_ret
      exact ⟨by rw [← HL.out]; rfl, HB.out⟩

/-- A row grows by a regex that lies elsewhere. -/
theorem row_push2 {B : Nat} {w3 w4 : World} {v v' : Value} {L : List X3.RX} {VS : List Value} {r : X3.RX} {nv : Value}
    (h1 : Reps (fun x => B ≤ x ∧ some x ≠ v.ownBlock) w3 L VS)
    (hr : RepS (fun x => B ≤ x ∧ some x ≠ v.ownBlock) w3 r nv) (hown : w4.ownsRow B 28 6 v' (L.length + 1) (VS.flatMap ncs ++ ncs nv))
    (hgrow : w3.grownBy w4 v.ownBlock) (hat : v'.ownBlock = v.ownBlock ∨ v'.ownBlock = some w3.heap.size) : RowOf B w4 v' (L ++ [r]) := by
  refine ⟨VS ++ [nv], ?_, ?_⟩
  · have h3 : Reps (fun x => B ≤ x ∧ some x ≠ v.ownBlock) w3 (L ++ [r]) (VS ++ [nv]) := h1.push hr
    have h3' : Reps (fun x => (B ≤ x ∧ some x ≠ v.ownBlock) ∧ x < w3.heap.size) w3 (L ++ [r]) (VS ++ [nv]) := h3.monoS (fun g hg hl => ⟨hg, hl⟩)
    have h4 : Reps (fun x => (B ≤ x ∧ some x ≠ v.ownBlock) ∧ x < w3.heap.size) w4 (L ++ [r]) (VS ++ [nv]) := h3'.kept ⟨hgrow.size, fun g hg hl => hgrow.block g hl hg.1.2⟩
    exact h4.monoS (fun g hg _ => ⟨hg.1.1, by
      rcases hat with e | e
      · rw [e]; exact hg.1.2
      · rw [e]; intro e2; have := Option.some.inj e2; omega⟩)
  · rw [List.flatMap_append, List.length_append]
    simpa using hown
end Go.Proofs.Ytochckefnjobhaa
