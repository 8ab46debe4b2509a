/- Layer 4's example. -/
import Derived.Test.YtochckefnjobhaaXu
namespace Go.Proofs.Ytochckefnjobhaa
open Go Go.RowKit Go.Lib
open X3 (RX Pl)
set_option linter.unusedVariables false
set_option linter.unusedSimpArgs false

/-- What Parse returns, whatever the text. -/
theorem parse_gen {w w' : World} {R : Nat ⊕ X3.RX} {e : Ending} (h : ParseP w R e w') : ∃ (k x y z u : Int) (o : Option Addr) (n cc : Nat) (c : Int),
    e = .returned (.tuple #[nodeV k x y z u (.slice o n cc), .int .i64 c]) ∧ Below w.heap.size w w' ∧
    (match R with | .inl c' => c = (c' : Int) | .inr r => c = 0 ∧ RepS (fun g => g < w'.heap.size) w' r (nodeV k x y z u (.slice o n cc))) := by
  cases R with
  | inl c' => exact ⟨0, 0, 0, 0, 0, none, 0, 0, c', h.1, h.2, rfl⟩
  | inr r =>
    obtain ⟨v, rfl, hR, hb⟩ := h
    obtain ⟨k, x, y, z, u, o, n, c, rfl⟩ := hR.shape
    exact ⟨k, x, y, z, u, o, n, c, 0, rfl, hb, rfl, hR.monoS fun g _ hg => hg⟩
/-- A box that holds a regex. -/
def Bx (w : World) (b : Nat) (r : X3.RX) (k x y z u : Int) (o : Option Addr) (n c : Nat) : Prop :=
  w.heap[b]? = some (.cells #[.int .i64 k, .int .u64 x, .int .u64 y, .int .u64 z, .int .u64 u, .slice o n c] 28 (0, 0)) ∧ RepS (fun g => g < w.heap.size) w r (nodeV k x y z u (.slice o n c))
theorem Bx.next {w w' : World} {b : Nat} {r : X3.RX} {k x y z u : Int} {o : Option Addr} {n c : Nat} (h : Bx w b r k x y z u o n c) (hb : Below w.heap.size w w') : Bx w' b r k x y z u o n c :=
  ⟨(hb.block b (Array.getElem?_eq_some_iff.1 h.1).1).trans h.1, (h.2.kept (keepS_below hb)).monoS fun g hg _ => Nat.lt_of_lt_of_le hg hb.size⟩
theorem rep_next {w w' : World} {r : X3.RX} {v : Value} (h : RepS (fun g => g < w.heap.size) w r v) (hb : Below w.heap.size w w') : RepS (fun g => g < w'.heap.size) w' r v :=
  (h.kept (keepS_below hb)).monoS fun g hg _ => Nat.lt_of_lt_of_le hg hb.size
theorem box_new {w : World} {r : X3.RX} {k x y z u : Int} {o : Option Addr} {n c : Nat} (h : RepS (fun g => g < w.heap.size) w r (nodeV k x y z u (.slice o n c))) :
    ∃ wa, w.alloc (.cells #[.int .i64 k, .int .u64 x, .int .u64 y, .int .u64 z, .int .u64 u, .slice o n c] 28) = wa ∧ Bx wa w.heap.size r k x y z u o n c ∧ Below w.heap.size w wa ∧ wa.heap.size = w.heap.size + 1 := by
  have hb : Below w.heap.size w (w.alloc (.cells #[.int .i64 k, .int .u64 x, .int .u64 y, .int .u64 z, .int .u64 u, .slice o n c] 28)) := (Below.refl _ _).alloc (Nat.le_refl _) _
  exact ⟨_, rfl, ⟨new_block _ _, rep_next h hb⟩, hb, by simp⟩
/-- Two regexes side by side. -/
theorem row_two {w : World} {r r2 : X3.RX} {k x y z u k2 x2 y2 z2 u2 : Int} {o o2 : Option Addr} {n c n2 c2 : Nat} (h : RepS (fun g => g < w.heap.size) w r (nodeV k x y z u (.slice o n c))) (h2 : RepS (fun g => g < w.heap.size) w r2 (nodeV k2 x2 y2 z2 u2 (.slice o2 n2 c2))) :
    ∃ wa, w.alloc (.cells #[.int .i64 k, .int .u64 x, .int .u64 y, .int .u64 z, .int .u64 u, .slice o n c, .int .i64 k2, .int .u64 x2, .int .u64 y2, .int .u64 z2, .int .u64 u2, .slice o2 n2 c2] 28) = wa ∧ RowR (fun g => g < wa.heap.size) wa (.slice (some ⟨w.heap.size, 0, none⟩) 2 2) [r, r2] ∧ Below w.heap.size w wa ∧ wa.heap.size = w.heap.size + 1 := by
  have hb : Below w.heap.size w (w.alloc (.cells #[.int .i64 k, .int .u64 x, .int .u64 y, .int .u64 z, .int .u64 u, .slice o n c, .int .i64 k2, .int .u64 x2, .int .u64 y2, .int .u64 z2, .int .u64 u2, .slice o2 n2 c2] 28)) := (Below.refl _ _).alloc (Nat.le_refl _) _
  have hn := new_block w (.cells #[.int .i64 k, .int .u64 x, .int .u64 y, .int .u64 z, .int .u64 u, .slice o n c, .int .i64 k2, .int .u64 x2, .int .u64 y2, .int .u64 z2, .int .u64 u2, .slice o2 n2 c2] 28 (0, 0))
  have hc : ∀ j, _ = _ := fun j => Lib.cell_of_heap hn j
  refine ⟨_, rfl, ⟨.inr ⟨w.heap.size, 2, rfl, by simp, by simp, Nat.le_refl _, ?_⟩⟩, hb, by simp⟩
  exact .cons r _ _ 0 k x y z u _ (rep_next h hb) (hc 0) (hc 1) (hc 2) (hc 3) (hc 4) (hc 5) (.cons r2 _ _ 1 k2 x2 y2 z2 u2 _ (rep_next h2 hb) (hc 6) (hc 7) (hc 8) (hc 9) (hc 10) (hc 11) (.nil _ _))

theorem ex_sizes : ∀ k (hk : k < exL.length), exL[k].size ≤ 1000000 := by
  intro k hk
  match k, hk with
  | 0, _ => simp [exL, X3.RX.size]
  | 1, _ => simp [exL, X3.RX.size, X3.sizeL]
theorem ex_few : ¬ many exL := by
  rintro (h | h) <;> simp [exL, X3.sizeL, X3.RX.size] at h

set_option maxRecDepth 100000 in
set_option maxHeartbeats 4000000 in
theorem works (w : World) : Calls Try.prog 8 #[] w fun e w' => e = .returned (.bool true) ∧ Below w.heap.size w w' := by
  have kP : Hid (∀ w : World, Calls Try.prog 9 #[.string { data := #[97, 42] }] w (ParseP w (.inr (.star exA)))) := hid fun w => by
    have := parse_any { data := #[97, 42] } w (by decide)
    rw [show LL ({ data := #[97, 42] } : ByteArray) = [97, 42] from rfl, ex_parse0] at this
    exact this
  have kQ : Hid (∀ w : World, Calls Try.prog 9 #[.string { data := #[97, 98] }] w (ParseP w (.inr (.cat [exA, exB])))) := hid fun w => by
    have := parse_any { data := #[97, 98] } w (by decide)
    rw [show LL ({ data := #[97, 98] } : ByteArray) = [97, 98] from rfl, ex_parse1] at this
    exact this
  go_enter Try.func8, Try.ntmps8
  go_wp2_with fail
  refine (kP.out _).mono ?_
  intro e w1 hp
  obtain ⟨k, x, y, z, u, o, n, c, _, rfl, hb1, rfl, hR⟩ := parse_gen hp
  clear hp
  obtain ⟨wa, ea, hx, hba, hsa⟩ := box_new hR
  have HX := hid hx
  have HBA := hid (hb1.trans (hba.mono hb1.size))
  have hsz1 := hb1.size
  have HSA := hid hsa
  clear hR hx hba hsa hb1
  obtain ⟨b1, hb1e⟩ : ∃ b1, w1.heap.size = b1 := ⟨_, rfl⟩
  rw [hb1e] at HX hsz1 HSA
  go_wp2_with fail
  clear ea hb1e
  refine (kQ.out _).mono ?_
  intro e w2 hp
  obtain ⟨k2, x2, y2, z2, u2, o2, n2, c2, _, rfl, hb2, rfl, hR2⟩ := parse_gen hp
  clear hp
  obtain ⟨wb, eb, hx2, hbb, hsb⟩ := box_new hR2
  have HX1 := hid ((HX.out.next hb2).next hbb)
  obtain ⟨p0, p1, p2, p3, p4, p5⟩ := cells6 HX1.out.1
  obtain ⟨q0, q1, q2, q3, q4, q5⟩ := cells6 hx2.1
  obtain ⟨wc, ec, hRow, hbc, hsc⟩ := row_two HX1.out.2 hx2.2
  have HROW := hid hRow
  have HX3 := hid (HX1.out.next hbc)
  have hsw : w.heap.size ≤ wa.heap.size := HBA.out.size
  have HBC := hid (HBA.out.trans ((hb2.mono hsw).trans ((hbb.mono (Nat.le_trans hsw hb2.size)).trans (hbc.mono (by have := hb2.size; omega)))))
  have KB := hid (build_any _ _ wc _ hRow (fun g hg => hg) ex_sizes (by decide))
  have hb2e : wb.heap.size = w2.heap.size + 1 := hsb
  have HSB := hid (And.intro hsb hsc)
  clear hR2 hx2 hRow hbb hbc hb2 hsb hsc hb2e
  go_wp2_with fail
  clear eb ec p0 p1 p2 p3 p4 p5 q0 q1 q2 q3 q4 q5
  refine KB.out.mono ?_
  rintro e wd ⟨hbd, hP⟩
  rcases hP with ⟨hm, _⟩ | ⟨_, m, T, pv, AS, bv, A0, rfl, hN⟩
  · exact absurd hm ex_few
  have hwc : w.heap.size ≤ wc.heap.size := HBC.out.size
  have HXd := hid (HX3.out.next hbd)
  have HBd := hid (HBC.out.trans (hbd.mono hwc))
  have HN := hid hN
  have KR1 := hid (run_any hN { data := #[97] } (by decide))
  clear hbd hN
  go_wp2_with fail
  refine KR1.out.mono ?_
  rintro e we ⟨R, rfl, hR, hbe⟩
  obtain rfl : R = 1 := hR.ext ex_run1
  clear hR
  have hNe := HN.out.below hbe
  have HNe := hid hNe
  have hwd : w.heap.size ≤ wd.heap.size := HBd.out.size
  have HBe := hid (HBd.out.trans (hbe.mono hwd))
  have HXe := hid (HXd.out.next hbe)
  have KR2 := hid (run_any hNe { data := #[97, 98] } (by decide))
  clear hNe hbe
  go_wp2_with fail
  refine KR2.out.mono ?_
  rintro e wf ⟨R, rfl, hR, hbf⟩
  obtain rfl : R = 2 := hR.ext ex_run2
  clear hR
  have hNf := HNe.out.below hbf
  have HNf := hid hNf
  have hwe : w.heap.size ≤ we.heap.size := HBe.out.size
  have HBf := hid (HBe.out.trans (hbf.mono hwe))
  have HXf := hid (HXe.out.next hbf)
  have KR3 := hid (run_any hNf { data := #[] } (by decide))
  clear hNf hbf
  go_wp2_with fail
  refine KR3.out.mono ?_
  rintro e wg ⟨R, rfl, hR, hbg⟩
  obtain rfl : R = 1 := hR.ext ex_run0
  clear hR
  have hNg := HNf.out.below hbg
  have HNg := hid hNg
  have hwf : w.heap.size ≤ wf.heap.size := HBf.out.size
  have HBg := hid (HBf.out.trans (hbg.mono hwf))
  have HXg := hid (HXf.out.next hbg)
  have KG := hid (begin_any hNg)
  clear hNg hbg
  go_wp2_with fail
  refine KG.out.mono ?_
  rintro e wh ⟨v0, rfl, hr0, _, hbh⟩
  have hNh := HNg.out.below hbh
  have HNh := hid hNh
  have hwg : w.heap.size ≤ wg.heap.size := HBg.out.size
  have HBh := hid (HBg.out.trans (hbh.mono hwg))
  have HXh := hid (HXg.out.next hbh)
  have KS1 := hid (step_at hNh HNh.out.at_ hr0 97)
  clear hNh hbh hr0
  go_wp2_with fail
  refine KS1.out.mono ?_
  rintro e wi ⟨v1, A1, rfl, hA1, hr1, _, hbi⟩
  have hNi := HNh.out.below hbi
  have HNi := hid hNi
  have hwh : w.heap.size ≤ wh.heap.size := HBh.out.size
  have HBi := hid (HBh.out.trans (hbi.mono hwh))
  have HXi := hid (HXh.out.next hbi)
  have KS2 := hid (step_at hNi hA1 hr1 98)
  clear hNi hbi hr1 hA1
  go_wp2_with fail
  refine KS2.out.mono ?_
  rintro e wj ⟨v2, A2, rfl, hA2, hr2, _, hbj⟩
  have hNj := HNi.out.below hbj
  have hwi : w.heap.size ≤ wi.heap.size := HBi.out.size
  have HBj := hid (HBi.out.trans (hbj.mono hwi))
  have HXj := hid (HXi.out.next hbj)
  have KT := hid (tags_at hNj hA2 hr2)
  clear hNj hbj hr2 hA2
  go_wp2_with fail
  refine KT.out.mono ?_
  rintro e wk ⟨R, rfl, hR, rfl⟩
  obtain rfl : R = 2 := hR.ext ex_run2
  clear hR
  have hBox := HXj.out.1
  obtain ⟨p0, p1, p2, p3, p4, p5⟩ := cells6 hBox
  have KZ := hid (sizeN_any _ _ _ _ _ (Nat.le_refl _) (by simp [X3.RX.size]) HXj.out.2)
  clear hBox
  go_wp2_with fail
  refine KZ.out.mono ?_
  rintro e wl ⟨rfl, hbl⟩
  have HBl := hid hbl
  clear hbl p0 p1 p2 p3 p4 p5
  go_wp2_with fail
  go_ret
  have hwj : w.heap.size ≤ wk.heap.size := HBj.out.size
  exact ⟨rfl, HBj.out.trans (HBl.out.mono hwj)⟩
end Go.Proofs.Ytochckefnjobhaa
