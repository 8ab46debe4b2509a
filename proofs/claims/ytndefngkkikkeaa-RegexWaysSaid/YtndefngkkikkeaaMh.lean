/- regex.Match. -/
import Derived.Test.YtndefngkkikkeaaMg
import Derived.Deep.OwnRows
namespace Go.Proofs.X3
open Classical in
/-- Does a regex match a text? -/
noncomputable def mtB (r : RX) (s : List UInt8) : Bool := decide (Mt r s)
theorem mtB_iff (r : RX) (s : List UInt8) : mtB r s = true ↔ Mt r s := @decide_eq_true_iff _ (Classical.propDecidable _)
end Go.Proofs.X3
namespace Go.Proofs.Ytndefngkkikkeaa
open Go Go.RowKit Go.Lib
open X3 (RX Pl)
set_option linter.unusedVariables false
set_option linter.unusedSimpArgs false

theorem MS.now_ {BS m pg cap sg : Nat} {P : List Pl} {AS : List Value} {seen : List Nat} {now : Nat} {w : World} (h : MS BS m pg cap sg P AS seen now w) (now' : Nat) (hpm : pg ≠ m) (ham : ∀ (k : Nat) (av : Value), AS[k]? = some av → av.ownBlock ≠ some m) :
    MS BS m pg cap sg P AS seen now' (w.setCell ⟨m, 2, none⟩ (.int .i64 (now' : Int))) := by
  have hs : ∀ g : Nat, g ≠ m → (w.setCell ⟨m, 2, none⟩ (.int .i64 (now' : Int))).heap[g]? = w.heap[g]? := fun g hg => Below.heap_setCell w ⟨m, 2, none⟩ _ g hg
  refine ⟨?_, fun k pl av h1 h2 j hj => (World.cell?_of_block (hs pg hpm)).trans (h.pls k pl av h1 h2 j hj), h.lenA, fun k pl av h1 h2 => ?_, (hs sg (Ne.symm h.m_ne)).trans h.marks, h.lenS, h.cap_, h.m_lt, h.pg_lt, h.m_ne, h.pg_ne⟩
  · rw [heap_setCell_same w m 2 _ 63 _ h.box]; rfl
  · rcases h.also k pl av h1 h2 with h3 | ⟨g, c, rfl, hg, hne, hq⟩
    · exact .inl h3
    · exact .inr ⟨g, c, rfl, hg, hne, fun j q hjq => (World.cell?_of_block (hs g (fun e => ham k _ h2 (congrArg some e)))).trans (hq j q hjq)⟩

theorem owns_mono {w : World} {B B' : Nat} {e : TypeId} {sz : Nat} {v : Value} {n : Nat} {xs : List Value} (h : w.ownsRow B e sz v n xs) (hB : B' ≤ B) : w.ownsRow B' e sz v n xs := by
  refine ⟨h.1, h.2.imp id ?_⟩
  rintro ⟨g, cap, cur, hv, hb, rest⟩
  exact ⟨g, cap, cur, hv, by omega, rest⟩
theorem made_ints (n : Nat) : madeCells #[.int .i64 0] n = (ints (List.replicate n 0)).toArray := by
  unfold madeCells ints
  apply Array.ext
  · simp
  · intro i h1 h2
    simp [Nat.mod_one]

/-- What a round of Match's outer loop begins with. -/
structure MOut (B B0 BS m pg cap sg : Nat) (P : List Pl) (AS : List Value) (f : Nat) (s : List UInt8) (w : World) (k : Nat) (A seen : List Nat) (av : Value) (wr : World) : Prop where
  ms : MS BS m pg cap sg P AS seen k wr
  ga : X3.Gath P (X3.Reach P f (s.take k)) (k + 1) seen A []
  hA : ∀ q, q ∈ A ↔ X3.Reach P f (s.take k) q
  row : wr.ownsRow B0 3 1 av A.length (ints A)
  few : A.length + X3.muS P seen (k + 1) ≤ X3.muL P
  bl : Below B w wr
  sz : B0 ≤ wr.heap.size

/-- And of its inner loop. -/
structure MIn (B0 BD BS m pg cap sg : Nat) (P : List Pl) (AS : List Value) (f : Nat) (s : List UInt8) (x : UInt8) (wA : World) (k j : Nat) (A N seen : List Nat) (nv : Value) (wi : World) : Prop where
  ms : MS BS m pg cap sg P AS seen (k + 1) wi
  ga : X3.Gath P (X3.Reach P f (s.take k ++ [x])) (k + 2) seen N []
  row : wi.ownsRow BD 3 1 nv N.length (ints N)
  few : N.length + X3.muS P seen (k + 2) ≤ X3.muL P
  ff : FF BD sg wA wi
  all : ∀ (i p : Nat) (pl : Pl), i < j → A[i]? = some p → P[p]? = some pl → X3.hasX pl.b x.toNat = true → seen[pl.next]? = some (k + 2)

theorem match_any0 : True := trivial

set_option maxRecDepth 100000 in
set_option maxHeartbeats 8000000 in
theorem match_any (S : Nat → Prop) (w : World) (r : RX) (v : Value) (s : ByteArray) (hR0 : RepS S w r v) (hsz : r.size ≤ 1000) (hs : s.size ≤ 1000) :
    Calls Try.prog 17 #[v, .string s] w fun e w' => e = .returned (.bool (X3.mtB r (LL s))) ∧ Below w.heap.size w w' := by
  have hR : RepS (fun g => g < w.heap.size) w r v := hR0.monoS (fun g _ hg => hg)
  clear hR0
  have hwd := hR.wd
  obtain ⟨ka, kx, ky, kz, ku, ko, kn, kc, rfl⟩ := hR.shape
  obtain ⟨w0, e0⟩ : ∃ w0, ((w.alloc (.cells #[.int .i64 ka, .int .u64 kx, .int .u64 ky, .int .u64 kz, .int .u64 ku, .slice ko kn kc] 28)).alloc (.cells #[.int .i64 0, .int .u64 0, .int .u64 0, .int .u64 0, .int .u64 0, noKids, .int .i64 0, .slice none 0 0] 60)).alloc (.cells #[.slice (some ⟨w.heap.size + 1, 0, none⟩) 1 1, .slice none 0 0, .int .i64 0] 63) = w0 := ⟨_, rfl⟩
  have hb0 : Below w.heap.size w w0 := by rw [← e0]; exact (below_two _ _ _).alloc (by simp; omega) _
  have hz0 : w0.heap[w.heap.size]? = some (.cells #[.int .i64 ka, .int .u64 kx, .int .u64 ky, .int .u64 kz, .int .u64 ku, .slice ko kn kc] 28 (0, 0)) := by rw [← e0]; exact (Below.heap_alloc _ _ _ (by simp; omega)).trans ((Below.heap_alloc _ _ _ (by simp)).trans (new_block _ _))
  have hp0 : w0.heap[w.heap.size + 1]? = some (.cells #[.int .i64 0, .int .u64 0, .int .u64 0, .int .u64 0, .int .u64 0, noKids, .int .i64 0, .slice none 0 0] 60 (0, 0)) := by rw [← e0]; exact (Below.heap_alloc _ _ _ (by simp)).trans (new_block2 _ _ _)
  have hm0 : w0.heap[w.heap.size + 1 + 1]? = some (.cells #[.slice (some ⟨w.heap.size + 1, 0, none⟩) 1 1, .slice none 0 0, .int .i64 0] 63 (0, 0)) := by rw [← e0]; exact new_block3 _ _ _ _
  have hs0 : w0.heap.size = w.heap.size + 1 + 1 + 1 := by rw [← e0]; simp
  have hM0 : MRep w.heap.size (w.heap.size + 1 + 1) w0 (.slice (some ⟨w.heap.size + 1, 0, none⟩) 1 1) [.slice none 0 0] [X3.none_] := by
    refine ⟨hm0, by omega, ⟨rfl, .inr ⟨w.heap.size + 1, 1, _, rfl, by omega, hp0, Nat.le_refl _, by decide, rfl, rfl⟩⟩, rfl, ?_, ?_, ?_, fun e => by have := Option.some.inj e; simp at this⟩
    · intro k pl av h1 h2
      match k, h1, h2 with
      | 0, h1, h2 => simp at h1 h2; subst h1 h2; exact World.ownsRow_nil _ _ _ _
    · intro k av g hk hg
      match k, hk with
      | 0, hk => simp at hk; subst hk; cases hg
    · intro i j a b g hi hj ha
      match i, hi with
      | 0, hi => simp at hi; subst hi; cases ha
  have hBd0 : X3.Bd [X3.none_] [X3.none_].length := by intro pl hp; simp at hp; subst hp; exact ⟨by decide, by simp [X3.none_]⟩
  have KI := hid (lay_any (fun g => g < w.heap.size) w.heap.size (w.heap.size + 1 + 1) (fun g hg => hg) _ r w0 _ 0 _ _ _ (Nat.le_refl _) (hR.kept (keepS_below hb0)) hM0 (by simp) hBd0 (by simp; omega) (by simp [X3.muL, X3.none_]; omega) (by omega))
  have HSND := hid (X3.lay_sound r 0 [X3.none_] hBd0 (by simp))
  have HMT := hid (fun t => X3.reach_match r t)
  have HOK := hid (X3.lay_ok r 0 [X3.none_] hwd (by intro k pl hp; cases k with | zero => simp at hp; subst hp; exact .inl rfl | succ k => simp at hp))
  have HZP := hid (X3.places_zero r)
  unfold X3.placesX at HZP
  unfold X3.placesX X3.firstX at HMT
  generalize hLX : X3.layX r 0 [X3.none_] = LX at *
  clear hLX
  obtain ⟨f, P⟩ := LX
  replace HMT : Hid (∀ t, X3.Reach P f t 0 ↔ X3.Mt r t) := HMT
  replace HSND : Hid (X3.Sound [X3.none_] P f r.size) := HSND
  replace HOK : Hid (X3.OkP P) := HOK
  have HM0 := hid hM0
  have hPl : P.length ≤ 1001 := by have := HSND.out.len; simp at this; omega
  have hmuP : X3.muL P ≤ 4001 := by have := HSND.out.mu; simp [X3.muL, X3.none_] at this; simp only [X3.muL]; omega
  have hP0 : 0 < P.length := by have := HSND.out.lt; omega
  have hmake := run_make_row' (P := Try.prog) 58 3 (.int .i64 0) 8 Try.underlying58 info3 rfl .i64 .i64 P.length (by omega) (by omega)
  obtain ⟨p0, p1, p2, p3, p4, p5⟩ := cells6 hz0
  have hT : ∀ t p pl, X3.Reach P f t p → P[p]? = some pl → ∀ q ∈ pl.also, X3.Reach P f t q := fun t p pl => X3.reach_also p pl
  have hTl : ∀ t p, X3.Reach P f t p → p < P.length := fun t p h => X3.reach_lt HSND.out.bd HSND.out.lt h
  have HT := hid hT
  have HTL := hid hTl
  clear hT hTl hM0 hR hp0 hm0 hwd hBd0
  go_enter Try.func17, Try.ntmps17
  go_wp2_with fail
  refine KI.out.mono ?_
  rintro e w1 ⟨pv1, AS, rfl, hM1, hF1⟩
  replace hM1 : MRep w.heap.size (w.heap.size + 1 + 1) w1 pv1 AS P := hM1
  obtain ⟨pg, cap, rfl⟩ := hM1.sl hP0
  have hs1 := hF1.size
  have cm : w1.cell? ⟨w.heap.size + 1 + 1, 0, none⟩ = some (.slice (some ⟨pg, 0, none⟩) P.length cap) := by rw [Lib.cell_of_heap hM1.box]; rfl
  have hB1 : Below w.heap.size w w1 := hb0.trans (hF1.below HM0.out (by omega))
  obtain ⟨w2, e2⟩ : ∃ w2, w1.alloc (.cells (madeCells #[.int .i64 0] P.length) 3) = w2 := ⟨_, rfl⟩
  have hb2 : Below w1.heap.size w1 w2 := by rw [← e2]; exact (Below.refl _ _).alloc (Nat.le_refl _) _
  have hn2 : w2.heap[w1.heap.size]? = some (.cells (ints (List.replicate P.length 0)).toArray 3 (0, 0)) := by rw [← e2, ← made_ints]; exact new_block _ _
  have hs2 : w2.heap.size = w1.heap.size + 1 := by rw [← e2]; simp
  have hml : w.heap.size + 1 + 1 < w1.heap.size := by omega
  have hbx2 := (hb2.block _ hml).trans hM1.box
  have cm2 : w2.cell? ⟨w.heap.size + 1 + 1, 1, none⟩ = some (.slice none 0 0) := by rw [Lib.cell_of_heap hbx2]; rfl
  have fm2 : w2.frozen? ⟨w.heap.size + 1 + 1, 1, none⟩ = false := Lib.frozen_of_heap hbx2 1
  obtain ⟨w3, e3⟩ : ∃ w3, w2.setCell ⟨w.heap.size + 1 + 1, 1, none⟩ (.slice (some ⟨w1.heap.size, 0, none⟩) P.length P.length) = w3 := ⟨_, rfl⟩
  have hbx3 : w3.heap[w.heap.size + 1 + 1]? = some (.cells #[.slice (some ⟨pg, 0, none⟩) P.length cap, .slice (some ⟨w1.heap.size, 0, none⟩) P.length P.length, .int .i64 0] 63 (0, 0)) := by rw [← e3, heap_setCell_same w2 (w.heap.size + 1 + 1) 1 _ 63 _ hbx2]; rfl
  have g3 : ∀ g : Nat, g ≠ w.heap.size + 1 + 1 → w3.heap[g]? = w2.heap[g]? := fun g hg => by rw [← e3]; exact Below.heap_setCell w2 ⟨_, 1, none⟩ _ g hg
  have hs3 : w3.heap.size = w1.heap.size + 1 := by rw [← e3]; simpa using hs2
  have hB3 : Below w.heap.size w w3 := by rw [← e3]; exact (hB1.trans (hb2.mono (by omega))).setCell (p := ⟨w.heap.size + 1 + 1, 1, none⟩) (by show w.heap.size ≤ w.heap.size + 1 + 1; omega) _
  have hMS := hM1.ready (w' := w3) (fun g hg hne => (g3 g hne).trans (hb2.block g hg)) hbx3 ((g3 _ (by omega)).trans hn2)
  have hAM : ∀ (k : Nat) (av : Value), AS[k]? = some av → av.ownBlock ≠ some (w.heap.size + 1 + 1) := fun k av hk e => (hM1.ap1 k av _ hk e).1 rfl
  have hpgm : pg ≠ w.heap.size + 1 + 1 := fun e => hM1.apm (congrArg some e)
  have HAM := hid hAM
  have HMS := hid hMS
  have HB3 := hid hB3
  clear hAM hMS hB3 hbx3 g3 hn2 hb2 hB1 hM1 hF1 KI p0 p1 p2 p3 p4 p5 hz0 e0
  generalize hm : w.heap.size + 1 + 1 = m at *
  generalize hsgd : w1.heap.size = sg at *
  have hfl : f < P.length := HSND.out.lt
  obtain ⟨w4, e4⟩ : ∃ w4, w3.alloc (.cells #[.int .i64 (f : Int)] 3) = w4 := ⟨_, rfl⟩
  have hb4 : Below w3.heap.size w3 w4 := by rw [← e4]; exact (Below.refl _ _).alloc (Nat.le_refl _) _
  have hn4 : w4.heap[w3.heap.size]? = some (.cells #[.int .i64 (f : Int)] 3 (0, 0)) := by rw [← e4]; exact new_block _ _
  have hs4 : w4.heap.size = w3.heap.size + 1 := by rw [← e4]; simp
  have hga0 : X3.Gath P (X3.Reach P f []) 1 (List.replicate P.length 0) [] [] := X3.gath_new (by simp) (fun p x hx => by
    have := (List.getElem?_eq_some_iff.1 hx).2; simp at this; omega)
  have hMS4 : MS sg m pg cap sg P AS (List.replicate P.length 0) 0 w4 := HMS.out.ff (FF.ofBelow (B := w3.heap.size) hb4) (by omega) ((hb4.block sg (by omega)).trans HMS.out.marks) (by simp)
  have KF := hid (fold_any sg w3.heap.size m pg cap sg P AS (X3.Reach P f []) 0 (X3.muL P) (HT.out []) (HTL.out []) (by omega) (by omega) (by omega) (by omega) w4 (by omega) [] [f] (List.replicate P.length 0) (.slice none 0 0) (.slice (some ⟨w3.heap.size, 0, none⟩) 1 1) hMS4 (hga0.more (.start f (.refl f)))
    (World.ownsRow_nil _ _ _ _) ⟨rfl, .inr ⟨w3.heap.size, 1, _, rfl, Nat.le_refl _, hn4, Nat.le_refl _, by decide, rfl, rfl⟩⟩ (fun g hg => by cases hg) (by have := X3.muS_le P (List.replicate P.length 0) (0 + 1); simp; omega) (by have := X3.muS_le P (List.replicate P.length 0) (0 + 1); simp; omega) (by omega))
  have HB4 := hid (HB3.out.trans (hb4.mono (by omega)))
  have HS3 := hid hs3
  have HS4 := hid hs4
  clear hMS4 hga0 hn4 hb4 hs3 hs4
  go_wp2_with fail
  refine KF.out.mono ?_
  rintro e w5 ⟨av, A, seen, rfl, hms, hga, hff, hrow, hfew, hmono, hmores⟩
  have hA0 := X3.gath_start hga (hmores f (by simp))
  have hs5 := hff.size
  have hs3 := HS3.out
  have hs4 := HS4.out
  have hB5 : Below w.heap.size w w5 := ⟨hff.os.trans HB4.out.os, hff.tape.trans HB4.out.tape, hff.output.trans HB4.out.output, by have := HB4.out.size; omega, fun g hg => (hff.same g (by omega) (by omega)).trans (HB4.out.block g hg)⟩
  have hst : MOut w.heap.size w3.heap.size sg m pg cap sg P AS f (LL s) w 0 A seen av w5 := ⟨hms, by rw [List.take_zero]; exact hga, by rw [List.take_zero]; exact hA0, hrow, hfew, hB5, by omega⟩
  have HST := hid hst
  have hll : (LL s).length = s.size := rfl
  clear hst hms hga hff hrow hfew hmono hmores hA0 hB5 KF hs3 hs4 HMS HB3 HB4 e2 e3 e4 hbx2 hmake cm cm2 fm2
  go_wp2_with fail
  go_loopg [7, 9, 34] s.size (fun gk t7 t9 t34 wr => ∃ (k : Nat) (A seen : List Nat), Aside (k ≤ s.size ∧ gk = s.size - k ∧ t34 = .int .i64 (k : Int) ∧ MOut w.heap.size w3.heap.size sg m pg cap sg P AS f (LL s) w k A seen t7 wr))
  case atStart => exact ⟨0, A, seen, Nat.zero_le _, rfl, rfl, HST.out⟩
  case round =>
    clear HST
    obtain ⟨k, A, seen, hst⟩ := hrel
    obtain ⟨hk, hgk, e34, hst2⟩ := hst.out
    subst e34
    clear hst
    have hst := hst2
    clear hst2
    have hms := hst.ms
    by_cases hlt : k < s.size
    · have h1 : (k : Int) < (s.size : Int) := by omega
      have h0 : (0 : Int) ≤ (k : Int) := by omega
      have HX : Hid ((LL s)[k]? = some (s[k]'hlt)) := hid (ll_at hlt)
      have HTK : Hid ((LL s).take (k + 1) = (LL s).take k ++ [s[k]'hlt]) := hid (by rw [List.take_add_one, ll_at hlt]; rfl)
      obtain ⟨ao, ac, hav⟩ : ∃ ao ac, u7 = .slice ao A.length ac := by
        rcases hst.row.2 with ⟨h, h2⟩ | ⟨g, cap, cur, h, _⟩
        · rw [h, h2]; exact ⟨_, _, rfl⟩
        · exact ⟨_, _, h⟩
      subst hav
      have b2 : wr.cell? ⟨m, 2, none⟩ = some (.int .i64 (k : Int)) := by rw [Lib.cell_of_heap hms.box]; rfl
      have q2 : wr.frozen? ⟨m, 2, none⟩ = false := Lib.frozen_of_heap hms.box 2
      have a0 : (0 : Int) ≤ (k : Int) + 1 := by omega
      have a1 : (k : Int) + 1 < 9223372036854775808 := by omega
      obtain ⟨wA, eA⟩ : ∃ wA, wr.setCell ⟨m, 2, none⟩ (.int .i64 ((k : Int) + 1)) = wA := ⟨_, rfl⟩
      have hmsA : MS sg m pg cap sg P AS seen (k + 1) wA := by rw [← eA]; exact hms.now_ (k + 1) hpgm HAM.out
      have gA : ∀ g : Nat, g ≠ m → wA.heap[g]? = wr.heap[g]? := fun g hg => by rw [← eA]; exact Below.heap_setCell wr ⟨m, 2, none⟩ _ g hg
      have sA : wA.heap.size = wr.heap.size := by rw [← eA]; simp
      have hBA : Below w.heap.size w wA := by rw [← eA]; exact hst.bl.setCell (p := ⟨m, 2, none⟩) (by show w.heap.size ≤ m; omega) _
      have hAl : A.length ≤ 10000 := by have := hst.few; omega
      have hin : MIn w3.heap.size wA.heap.size sg m pg cap sg P AS f (LL s) (s[k]'hlt) wA k 0 A [] seen (.slice none 0 0) wA := by
        refine ⟨hmsA, X3.gath_new hmsA.lenS (fun p x hx => by have := hst.ga.old p x hx; omega), World.ownsRow_nil _ _ _ _, by have := X3.muS_le P seen (k + 2); simp; omega, FF.refl _ _ _, fun i p pl hi => by omega⟩
      have HIN := hid hin
      have HST := hid hst
      have HBA := hid hBA
      have HGA := hid gA
      have HSA := hid sA
      have hszr := hst.sz
      clear hin hst hmsA gA hBA sA hms
      go_wp2_with fail
      clear b2 q2 eA
      generalize hwo : wr = wo at *
      clear hwo
      clear wr
      go_loopg [9, 44] A.length (fun gj t9 t44 wr => ∃ (j : Nat) (N seen2 : List Nat), Aside (j ≤ A.length ∧ gj = A.length - j ∧ t44 = .int .i64 (j : Int) ∧ MIn w3.heap.size wA.heap.size sg m pg cap sg P AS f (LL s) (s[k]'hlt) wA k j A N seen2 t9 wr))
      case atStart => exact ⟨0, [], seen, Nat.zero_le _, rfl, rfl, HIN.out⟩
      case round =>
        clear HIN
        obtain ⟨j, N, seen2, hin⟩ := hrel
        obtain ⟨hj, hgj, e44, hin2⟩ := hin.out
        subst e44
        clear hin
        have hin := hin2
        clear hin2
        by_cases hjl : j < A.length
        · have g1 : (j : Int) < (A.length : Int) := by omega
          have g0 : (0 : Int) ≤ (j : Int) := by omega
          obtain ⟨pq, hpq⟩ : ∃ pq, A[j]? = some pq := ⟨_, List.getElem?_eq_getElem hjl⟩
          have hrp := (HST.out.hA pq).1 (List.mem_iff_getElem?.2 ⟨j, hpq⟩)
          have hpl := HTL.out _ pq hrp
          obtain ⟨pl, hP⟩ : ∃ pl, P[pq]? = some pl := ⟨_, List.getElem?_eq_getElem hpl⟩
          obtain ⟨avp, hA⟩ : ∃ avp, AS[pq]? = some avp := ⟨_, List.getElem?_eq_getElem (by rw [hin.ms.lenA]; exact hpl)⟩
          obtain ⟨ag, acp, cur, hav2, hBg, hag, hnc, hcm, hcs, htk⟩ := owns_sl HST.out.row (by omega)
          injection hav2 with i1 i2 i3
          subst i1 i3
          have hsA := HSA.out
          have h3g := HS3.out
          have hffs := hin.ff.size
          have hagl : ag < wo.heap.size := (Array.getElem?_eq_some_iff.1 hag).1
          have hagi : wr.heap[ag]? = some (.cells cur 3 (0, 0)) := (hin.ff.same ag (by omega) (by omega)).trans ((HGA.out ag (by omega)).trans hag)
          have ca : wr.cell? ⟨ag, j, none⟩ = some (.int .i64 (pq : Int)) := by
            have e : (cur.toList.take (A.length * 1))[j]? = some (.int .i64 (pq : Int)) := by rw [htk]; exact ints_at hpq
            rw [List.getElem?_take, if_pos (by omega), Array.getElem?_toList] at e
            rw [Lib.cell_of_heap hagi]; exact e
          obtain ⟨bk, bx, by_, bz, bu, hbc, hnd⟩ := bcs_shape pl.b
          have hplc : plc pl avp = [.int .i64 bk, .int .u64 bx, .int .u64 by_, .int .u64 bz, .int .u64 bu, noKids, .int .i64 (pl.next : Int), avp] := by simp [plc, hbc]
          have hdw : Below wr.heap.size wr wr.drew := (Below.refl _ _).drew
          obtain ⟨wd, hwd⟩ : ∃ wd, wr.drew = wd := ⟨_, rfl⟩
          rw [hwd] at hdw
          have sdw : wd.heap.size = wr.heap.size := by rw [← hwd]; rfl
          have hmsd := hin.ms.ff (seen' := seen2) (FF.ofBelow (B := wA.heap.size) (hdw.mono (by omega))) (by omega) ((hdw.block sg (by omega)).trans hin.ms.marks) hin.ms.lenS
          have pc : ∀ q, q < 8 → wd.cell? ⟨pg, pq * 8 + q, none⟩ = (plc pl avp)[q]? := hmsd.pls pq pl avp hP hA
          have d0 : wd.cell? ⟨pg, pq * 8, none⟩ = some (.int .i64 bk) := by have := pc 0 (by decide); rw [hplc] at this; exact this
          have d1 : wd.cell? ⟨pg, pq * 8 + 1, none⟩ = some (.int .u64 bx) := by rw [pc 1 (by decide), hplc]; rfl
          have d2 : wd.cell? ⟨pg, pq * 8 + 2, none⟩ = some (.int .u64 by_) := by rw [pc 2 (by decide), hplc]; rfl
          have d3 : wd.cell? ⟨pg, pq * 8 + 3, none⟩ = some (.int .u64 bz) := by rw [pc 3 (by decide), hplc]; rfl
          have d4 : wd.cell? ⟨pg, pq * 8 + 4, none⟩ = some (.int .u64 bu) := by rw [pc 4 (by decide), hplc]; rfl
          have d5 : wd.cell? ⟨pg, pq * 8 + 5, none⟩ = some noKids := by rw [pc 5 (by decide), hplc]; rfl
          have dm : wd.cell? ⟨m, 0, none⟩ = some (.slice (some ⟨pg, 0, none⟩) P.length cap) := by rw [Lib.cell_of_heap hmsd.box]; rfl
          have r0 : (0 : Int) ≤ (pq : Int) := by omega
          have r1 : (pq : Int) < (P.length : Int) := by omega
          have KH := hid (fun w => has_any (okB_rep (HOK.out pq pl hP) w) (s[k]'hlt).toNat (s[k]'hlt).toNat_lt w)
          rw [hnd] at KH
          have HMSD := hid hmsd
          have HI := hid hin
          have HDW := hid hdw
          have SDW := hid sdw
          have hcap := hin.ms.cap_
          have HPC := hid pc
          have HPLC := hid hplc
          clear hin hmsd hdw hagi hag hcs htk hbc hnd pc hplc h3g hsA sdw
          go_upto_region 13 with fail
          refine region_T 11 (fun w' => w'.cell? ⟨m, 0, none⟩ = some (.slice (some ⟨pg, 0, none⟩) P.length cap) ∧ w'.cell? ⟨pg, pq * 8, none⟩ = some (.int .i64 bk) ∧ w'.cell? ⟨pg, pq * 8 + 1, none⟩ = some (.int .u64 bx) ∧ w'.cell? ⟨pg, pq * 8 + 2, none⟩ = some (.int .u64 by_) ∧ w'.cell? ⟨pg, pq * 8 + 3, none⟩ = some (.int .u64 bz) ∧ w'.cell? ⟨pg, pq * 8 + 4, none⟩ = some (.int .u64 bu) ∧ w'.cell? ⟨pg, pq * 8 + 5, none⟩ = some noKids) (by kernel_rfl) (by rw [hwd]; exact ⟨dm, d0, d1, d2, d3, d4, d5⟩) (fun inv hHeld => ?_)
          rw [hwd] at hHeld ⊢
          clear hwd ca
          refine anyT_take (i := 0) (oi := { dst := some 48, op := Op.move (Operand.tmp 5), type := 57, pos := "match.go:32", after := #[], guard := none }) (v := ?_) rfl (by kernel_rfl) (by kernel_rfl) (by kernel_rfl) (by decide) (by decide) (by kernel_rfl) (by kernel_rfl) (fun _ _ _ h => h) (Or.inl ⟨by rfl, ?_⟩) hHeld inv (fun inv => ?_)
          rotate_left
          · intro w hSw
            try dsimp only at hSw
            go_simp
            try with_reducible rfl
          simp only [Act.put, List.setIfInBounds_toArray, List.set_cons_zero, List.set_cons_succ]
          refine anyT_take (i := 1) (oi := { dst := some 49, op := Op.nilCheck (Operand.tmp 48), type := 0, pos := "match.go:32", after := #[{ on := 0, ground := Ground.data }], guard := none }) (v := ?_) rfl (by kernel_rfl) (by kernel_rfl) (by kernel_rfl) (by decide) (by decide) (by kernel_rfl) (by kernel_rfl) (fun _ _ _ h => h) (Or.inl ⟨by rfl, ?_⟩) hHeld inv (fun inv => ?_)
          rotate_left
          · intro w hSw
            try dsimp only at hSw
            go_simp
            try with_reducible rfl
          simp only [Act.put, List.setIfInBounds_toArray, List.set_cons_zero, List.set_cons_succ]
          refine anyT_take (i := 2) (oi := { dst := some 50, op := Op.fieldAddr 63 (Operand.tmp 49) 0, type := 0, pos := "match.go:32", after := #[{ on := 1, ground := Ground.data }], guard := none }) (v := ?_) rfl (by kernel_rfl) (by kernel_rfl) (by kernel_rfl) (by decide) (by decide) (by kernel_rfl) (by kernel_rfl) (fun _ _ _ h => h) (Or.inl ⟨by rfl, ?_⟩) hHeld inv (fun inv => ?_)
          rotate_left
          · intro w hSw
            try dsimp only at hSw
            go_simp
            try with_reducible rfl
          simp only [Act.put, List.setIfInBounds_toArray, List.set_cons_zero, List.set_cons_succ]
          refine anyT_take (i := 3) (oi := { dst := some 51, op := Op.load 61 (Operand.tmp 50), type := 61, pos := "match.go:32", after := #[{ on := 2, ground := Ground.data }], guard := none }) (v := ?_) rfl (by kernel_rfl) (by kernel_rfl) (by kernel_rfl) (by decide) (by decide) (by kernel_rfl) (by kernel_rfl) (fun _ _ _ h => h) (Or.inl ⟨by rfl, ?_⟩) hHeld inv (fun inv => ?_)
          rotate_left
          · intro w hSw
            try dsimp only at hSw
            go_simp
            try with_reducible rfl
          simp only [Act.put, List.setIfInBounds_toArray, List.set_cons_zero, List.set_cons_succ]
          refine anyT_take (i := 4) (oi := { dst := some 52, op := Op.move (Operand.tmp 11), type := 3, pos := "match.go:32", after := #[], guard := none }) (v := ?_) rfl (by kernel_rfl) (by kernel_rfl) (by kernel_rfl) (by decide) (by decide) (by kernel_rfl) (by kernel_rfl) (fun _ _ _ h => h) (Or.inl ⟨by rfl, ?_⟩) hHeld inv (fun inv => ?_)
          rotate_left
          · intro w hSw
            try dsimp only at hSw
            go_simp
            try with_reducible rfl
          simp only [Act.put, List.setIfInBounds_toArray, List.set_cons_zero, List.set_cons_succ]
          refine anyT_take (i := 5) (oi := { dst := some 53, op := Op.indexAddr 61 (Operand.tmp 51) (Operand.tmp 52), type := 0, pos := "match.go:32", after := #[{ on := 3, ground := Ground.data }, { on := 4, ground := Ground.data }], guard := none }) (v := ?_) rfl (by kernel_rfl) (by kernel_rfl) (by kernel_rfl) (by decide) (by decide) (by kernel_rfl) (by kernel_rfl) (fun _ _ _ h => h) (Or.inl ⟨by rfl, ?_⟩) hHeld inv (fun inv => ?_)
          rotate_left
          · intro w hSw
            try dsimp only at hSw
            go_simp
            try with_reducible rfl
          simp only [Act.put, List.setIfInBounds_toArray, List.set_cons_zero, List.set_cons_succ]
          refine anyT_take (i := 6) (oi := { dst := some 54, op := Op.fieldAddr 60 (Operand.tmp 53) 0, type := 0, pos := "match.go:32", after := #[{ on := 5, ground := Ground.data }], guard := none }) (v := ?_) rfl (by kernel_rfl) (by kernel_rfl) (by kernel_rfl) (by decide) (by decide) (by kernel_rfl) (by kernel_rfl) (fun _ _ _ h => h) (Or.inl ⟨by rfl, ?_⟩) hHeld inv (fun inv => ?_)
          rotate_left
          · intro w hSw
            try dsimp only at hSw
            go_simp
            try with_reducible rfl
          simp only [Act.put, List.setIfInBounds_toArray, List.set_cons_zero, List.set_cons_succ]
          refine anyT_take (i := 7) (oi := { dst := some 55, op := Op.load 28 (Operand.tmp 54), type := 28, pos := "match.go:32", after := #[{ on := 6, ground := Ground.data }], guard := none }) (v := ?_) rfl (by kernel_rfl) (by kernel_rfl) (by kernel_rfl) (by decide) (by decide) (by kernel_rfl) (by kernel_rfl) (fun _ _ _ h => h) (Or.inl ⟨by rfl, ?_⟩) hHeld inv (fun inv => ?_)
          rotate_left
          · intro w hSw
            try dsimp only at hSw
            go_simp
            try with_reducible rfl
          simp only [Act.put, List.setIfInBounds_toArray, List.set_cons_zero, List.set_cons_succ]
          refine anyT_take (i := 8) (oi := { dst := some 56, op := Op.move (Operand.tmp 1), type := 9, pos := "match.go:32", after := #[], guard := none }) (v := ?_) rfl (by kernel_rfl) (by kernel_rfl) (by kernel_rfl) (by decide) (by decide) (by kernel_rfl) (by kernel_rfl) (fun _ _ _ h => h) (Or.inl ⟨by rfl, ?_⟩) hHeld inv (fun inv => ?_)
          rotate_left
          · intro w hSw
            try dsimp only at hSw
            go_simp
            try with_reducible rfl
          simp only [Act.put, List.setIfInBounds_toArray, List.set_cons_zero, List.set_cons_succ]
          refine anyT_take (i := 9) (oi := { dst := some 57, op := Op.move (Operand.tmp 8), type := 3, pos := "match.go:32", after := #[], guard := none }) (v := ?_) rfl (by kernel_rfl) (by kernel_rfl) (by kernel_rfl) (by decide) (by decide) (by kernel_rfl) (by kernel_rfl) (fun _ _ _ h => h) (Or.inl ⟨by rfl, ?_⟩) hHeld inv (fun inv => ?_)
          rotate_left
          · intro w hSw
            try dsimp only at hSw
            go_simp
            try with_reducible rfl
          simp only [Act.put, List.setIfInBounds_toArray, List.set_cons_zero, List.set_cons_succ]
          refine anyT_take (i := 10) (oi := { dst := some 58, op := Op.index 9 (Operand.tmp 56) (Operand.tmp 57), type := 5, pos := "match.go:32", after := #[{ on := 8, ground := Ground.data }, { on := 9, ground := Ground.data }], guard := none }) (v := ?_) rfl (by kernel_rfl) (by kernel_rfl) (by kernel_rfl) (by decide) (by decide) (by kernel_rfl) (by kernel_rfl) (fun _ _ _ h => h) (Or.inl ⟨by rfl, ?_⟩) hHeld inv (fun inv => ?_)
          rotate_left
          · intro w hSw
            try dsimp only at hSw
            go_simp
            try with_reducible rfl
          simp only [Act.put, List.setIfInBounds_toArray, List.set_cons_zero, List.set_cons_succ]
          refine anyT_one (i := 11) (o := { dst := some 59, op := Op.call { callee := Callee.value (Operand.func 15), args := #[Operand.tmp 55, Operand.tmp 58], argTypes := #[28, 5] }, type := 4, pos := "match.go:32", after := #[{ on := 7, ground := Ground.data }, { on := 10, ground := Ground.data }], guard := none }) (by kernel_rfl) rfl (fun K' hK => ?_)
          go_simp
          refine (KH.out _).mono ?_
          rintro e w7 ⟨rfl, hb7⟩
          refine hK.out _ _ (fun h => absurd h (by decide)) ?_
          clear hK K'
          try simp only [Act.put, List.setIfInBounds_toArray, List.set_cons_zero, List.set_cons_succ]
          refine anyT_done (by kernel_rfl) ?_ _
          clear inv hHeld d0 d1 d2 d3 d4 d5 dm i2
          have HB7 := hid (HDW.out.trans (hb7.mono (Nat.le_of_eq SDW.out.symm)))
          have hB7 := HB7.out
          have hws := HB7.out.size
          have hsA := HSA.out
          have h3g := HS3.out
          have hbj0 : (0 : Int) ≤ (j : Int) + 1 := by omega
          have hbj1 : (j : Int) + 1 < 9223372036854775808 := by omega
          have hms7 : MS sg m pg cap sg P AS seen2 (k + 1) w7 := HI.out.ms.ff (seen' := seen2) (FF.ofBelow (B := wA.heap.size) (hB7.mono (by omega))) (by omega) ((hB7.block sg (by omega)).trans HI.out.ms.marks) HI.out.ms.lenS
          have hf7 : FF wA.heap.size sg wA w7 := HI.out.ff.trans (FF.ofBelow (hB7.mono (by omega)))
          by_cases hxx : X3.hasX pl.b (s[k]'hlt).toNat = true
          · have HXX := hid hxx
            have dm7 : w7.cell? ⟨m, 0, none⟩ = some (.slice (some ⟨pg, 0, none⟩) P.length cap) := by rw [Lib.cell_of_heap hms7.box]; rfl
            have d67 : w7.cell? ⟨pg, pq * 8 + 6, none⟩ = some (.int .i64 (pl.next : Int)) := by rw [hms7.pls pq pl avp hP hA 6 (by decide), HPLC.out]; rfl
            obtain ⟨w8, e8⟩ : ∃ w8, w7.alloc (.cells #[.int .i64 (pl.next : Int)] 3) = w8 := ⟨_, rfl⟩
            have hb8 : Below w7.heap.size w7 w8 := by rw [← e8]; exact (Below.refl _ _).alloc (Nat.le_refl _) _
            have hn8 : w8.heap[w7.heap.size]? = some (.cells #[.int .i64 (pl.next : Int)] 3 (0, 0)) := by rw [← e8]; exact new_block _ _
            have hs8 : w8.heap.size = w7.heap.size + 1 := by rw [← e8]; simp
            have hms8 : MS sg m pg cap sg P AS seen2 (k + 1) w8 := hms7.ff (seen' := seen2) (FF.ofBelow (B := w7.heap.size) hb8) (by omega) ((hb8.block sg (by omega)).trans hms7.marks) hms7.lenS
            have hg8 : X3.Gath P (X3.Reach P f ((LL s).take k ++ [s[k]'hlt])) (k + 1 + 1) seen2 N [pl.next] := HI.out.ga.more (.step _ _ pq pl.next pl hrp hP hxx (.refl _))
            have hr8 : w8.ownsRow wA.heap.size 3 1 u9 N.length (ints N) := owns_kept (owns_kept HI.out.row (fun g hg => hB7.block g (HI.out.row.lt g hg).2)) (fun g hg => hb8.block g (by have := (HI.out.row.lt g hg).2; omega))
            have hfw8 : N.length + X3.muS P seen2 (k + 1 + 1) ≤ X3.muL P := HI.out.few
            have hne8 : ∀ g, u9.ownBlock = some g → (Value.slice (some ⟨w7.heap.size, 0, none⟩) 1 1).ownBlock ≠ some g := fun g hg e => by
              have h := (HI.out.row.lt g hg).2
              have h' : w7.heap.size = g := Option.some.inj e
              omega
            have hf8 : FF wA.heap.size sg wA w8 := hf7.trans (FF.ofBelow (hb8.mono (by omega)))
            have KF := hid (fold_any sg wA.heap.size m pg cap sg P AS (X3.Reach P f ((LL s).take k ++ [s[k]'hlt])) (k + 1) (X3.muL P) (HT.out _) (HTL.out _) (by omega) (by omega) (by omega) (by omega) w8 (by omega) N [pl.next] seen2 u9 (.slice (some ⟨w7.heap.size, 0, none⟩) 1 1) hms8 hg8 hr8 ⟨rfl, .inr ⟨w7.heap.size, 1, _, rfl, by omega, hn8, Nat.le_refl _, by decide, rfl, rfl⟩⟩ hne8 hfw8 (by simp; omega) (by omega))
            have HF8 := hid hf8
            rw [hxx]
            clear hms7 hf7 hb8 hn8 hs8 hms8 hg8 hr8 hfw8 hne8 hf8 hsA h3g hxx hb7 hB7
            go_wp2_with fail
            refine KF.out.mono ?_
            rintro e w9 ⟨nv, N', seen3, rfl, hms9, hga9, hff9, hrow9, hfew9, hmono9, hmores9⟩
            have hn9 : MIn w3.heap.size wA.heap.size sg m pg cap sg P AS f (LL s) (s[k]'hlt) wA k (j + 1) A N' seen3 nv w9 := by
              refine ⟨hms9, hga9, hrow9, hfew9, HF8.out.trans hff9, fun i p pl' hi hAi hPp hx => ?_⟩
              by_cases hij : i < j
              · exact hmono9 _ (HI.out.all i p pl' hij hAi hPp hx)
              · have : i = j := by omega
                subst this
                rw [hpq] at hAi
                injection hAi with hAi
                subst hAi
                rw [hP] at hPp
                injection hPp with hPp
                subst hPp
                exact hmores9 _ (by simp)
            have HN9 := hid hn9
            clear hn9 hms9 hga9 hff9 hrow9 hfew9 hmono9 hmores9 KF e8
            go_wp2_with fail
            go_roundg (A.length - (j + 1))
            case measure => omega
            case rel => exact ⟨j + 1, N', seen3, by omega, rfl, rfl, HN9.out⟩
          · have hxf : X3.hasX pl.b (s[k]'hlt).toNat = false := by cases h : X3.hasX pl.b (s[k]'hlt).toNat with
              | false => rfl
              | true => exact absurd h hxx
            have hn9 : MIn w3.heap.size wA.heap.size sg m pg cap sg P AS f (LL s) (s[k]'hlt) wA k (j + 1) A N seen2 u9 w7 := by
              refine ⟨hms7, HI.out.ga, owns_kept HI.out.row (fun g hg => hB7.block g (HI.out.row.lt g hg).2), HI.out.few, hf7, fun i p pl' hi hAi hPp hx => ?_⟩
              by_cases hij : i < j
              · exact HI.out.all i p pl' hij hAi hPp hx
              · have : i = j := by omega
                subst this
                rw [hpq] at hAi
                injection hAi with hAi
                subst hAi
                rw [hP] at hPp
                injection hPp with hPp
                subst hPp
                exact absurd hx hxx
            have HN9 := hid hn9
            rw [hxf]
            clear hn9 hms7 hf7 hsA h3g hxx hxf hb7 hB7
            go_wp2_with fail
            go_roundg (A.length - (j + 1))
            case measure => omega
            case rel => exact ⟨j + 1, N, seen2, by omega, rfl, rfl, HN9.out⟩
        · have g1 : ¬ (j : Int) < (A.length : Int) := by omega
          have hjA : j = A.length := by omega
          subst hjA
          have hsA := HSA.out
          have h3g := HS3.out
          have hffs := hin.ff.size
          have hnx : MOut w.heap.size w3.heap.size sg m pg cap sg P AS f (LL s) w (k + 1) N seen2 u9 wr := by
            have hg2 : X3.Gath P (X3.Reach P f ((LL s).take (k + 1))) (k + 1 + 1) seen2 N [] := by rw [HTK.out]; exact hin.ga
            refine ⟨hin.ms, hg2, ?_, owns_mono hin.row (by omega), hin.few, ⟨hin.ff.os.trans HBA.out.os, hin.ff.tape.trans HBA.out.tape, hin.ff.output.trans HBA.out.output, by have := HBA.out.size; omega, fun g hg => (hin.ff.same g (by omega) (by omega)).trans (HBA.out.block g hg)⟩, by omega⟩
            rw [HTK.out]
            refine X3.gath_next HST.out.hA hin.ga (fun p hp pl hP hx => ?_)
            obtain ⟨i, hi⟩ := List.mem_iff_getElem?.1 hp
            exact hin.all i p pl (List.getElem?_eq_some_iff.1 hi).1 hi hP hx
          have HNX := hid hnx
          clear hin hnx h3g hsA
          go_wp2_with fail
          go_roundg (s.size - (k + 1))
          case measure => omega
          case rel => exact ⟨k + 1, N, seen2, by omega, rfl, rfl, HNX.out⟩
    · have hks : k = s.size := by omega
      subst hks
      have h1 : ¬ ((s.size : Nat) : Int) < (s.size : Int) := by omega
      have htk : (LL s).take s.size = LL s := by rw [← hll]; exact List.take_length
      obtain ⟨x0, hx0⟩ : ∃ x0, seen[0]? = some x0 := ⟨_, List.getElem?_eq_getElem (by rw [hms.lenS]; exact hP0)⟩
      have b1 : wr.cell? ⟨m, 1, none⟩ = some (.slice (some ⟨sg, 0, none⟩) P.length P.length) := by rw [Lib.cell_of_heap hms.box]; rfl
      have b2 : wr.cell? ⟨m, 2, none⟩ = some (.int .i64 (s.size : Int)) := by rw [Lib.cell_of_heap hms.box]; rfl
      have bs : wr.cell? ⟨sg, 0, none⟩ = some (.int .i64 (x0 : Int)) := by rw [Lib.cell_of_heap hms.marks, List.getElem?_toArray]; exact ints_at hx0
      have hiff : x0 = s.size + 1 ↔ X3.mtB r (LL s) = true := by
        rw [X3.mtB_iff, ← HMT.out, ← htk, ← hst.hA 0, hst.ga.iff_, hx0]
        exact ⟨fun e => by rw [e], fun e => Option.some.inj e⟩
      have a0 : (0 : Int) ≤ (s.size : Int) + 1 := by omega
      have a1 : (s.size : Int) + 1 < 9223372036854775808 := by omega
      have p0' : (0 : Int) < (P.length : Int) := by omega
      have HBL := hid hst.bl
      clear hst hms htk
      by_cases hx : x0 = s.size + 1
      · have hB : X3.mtB r (LL s) = true := hiff.1 hx
        have t1 : ((x0 : Int) == (s.size : Int) + 1) = true := by rw [beq_iff_eq]; omega
        have HB := hid hB
        clear hiff hB hx
        go_wp2_with fail
        go_quiet (fail)
        go_wp2_with fail
        go_ret
        exact ⟨by rw [HB.out]; rfl, HBL.out.trans (below_drewN (Below.refl _ _) _)⟩
      · have hB : X3.mtB r (LL s) = false := by
          cases h : X3.mtB r (LL s) with
          | false => rfl
          | true => exact absurd (hiff.2 h) hx
        have t1 : ((x0 : Int) == (s.size : Int) + 1) = false := by rw [beq_eq_false_iff_ne]; omega
        have HB := hid hB
        clear hiff hB hx
        go_wp2_with fail
        go_quiet (fail)
        go_wp2_with fail
        go_ret
        exact ⟨by rw [HB.out]; rfl, HBL.out.trans (below_drewN (Below.refl _ _) _)⟩

end Go.Proofs.Ytndefngkkikkeaa
