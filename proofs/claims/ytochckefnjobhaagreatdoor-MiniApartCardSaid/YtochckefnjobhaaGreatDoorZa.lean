/- nfa's machine: lay, of ways. -/
import Derived.Test.YtochckefnjobhaaGreatDoorNe
namespace Go.Proofs.YtochckefnjobhaaGreatDoor
open Go Go.RowKit Go.Lib
open X3 (RX Pl)
set_option linter.unusedVariables false
set_option linter.unusedSimpArgs false
set_option maxRecDepth 100000 in
set_option maxHeartbeats 8000000 in
theorem lay_alt (T : Nat → Nat) (S : Nat → Prop) (B m b : Nat) (hS : ∀ g, S g → g < B) (w : World) (pv : Value) (AS : List Value) (P : List Pl) (l : List RX) (g cap : Nat) (hl : RepLS S w l g 0) (hSg : S g) (hgw : g < w.heap.size) (hcap : l.length ≤ cap) (hM : MRep T B m w pv AS P)
  (hb : b < P.length) (hBd : X3.Bd P P.length) (hP : P.length + (1 + X3.sizeL l) * (1 + X3.sizeL l) * (1 + X3.sizeL l) ≤ 100000000000) (hmu0 : X3.muL P + 4 * ((1 + X3.sizeL l) * (1 + X3.sizeL l) * (1 + X3.sizeL l)) ≤ 1000000000000) (hBw : B ≤ w.heap.size) (hN : X3.sizeL l ≤ 1000000)
  (hT : ∀ k, P.length ≤ k → k < (X3.layX (.alt l) b P).2.length → T k = 0)
  (ih : ∀ (T : Nat → Nat) (k : Nat) (hk : k < l.length) (w : World) (v : Value) (b : Nat) (pv : Value) (AS : List Value) (P : List Pl), RepS S w l[k] v → MRep T B m w pv AS P → b < P.length → X3.Bd P P.length → P.length + l[k].size * l[k].size * l[k].size ≤ 100000000000 → X3.muL P + 4 * (l[k].size * l[k].size * l[k].size) ≤ 1000000000000 → B ≤ w.heap.size →
   (∀ j, P.length ≤ j → j < (X3.layX l[k] b P).2.length → T j = 0) → Calls Tryz.prog 95 #[.pointer (some ⟨m, 0, none⟩), v, .int .i64 (b : Int)] w (LayP T B m w pv AS (X3.layX l[k] b P))) :
  Calls Tryz.prog 95 #[.pointer (some ⟨m, 0, none⟩), nodeV 3 0 0 0 0 (.slice (some ⟨g, 0, none⟩) l.length cap), .int .i64 (b : Int)] w (LayP T B m w pv AS (X3.layX (.alt l) b P)) := by
 have IH := hid ih
 have HL := hid hl
 clear ih hl
 have hll : l.length ≤ 1000000 := by have := length_le_sizeL l; omega
 have hgB := hS g hSg
 have hc0 := X4.cube (X3.sizeL l) 0 (Nat.zero_le _)
 obtain ⟨w0, e0, hB3⟩ := boxes3 m b 3 0 0 0 0 (.slice (some ⟨g, 0, none⟩) l.length cap) w
 have hb0 := hB3.bl
 have hs0 := hB3.sz
 have HM0 := hid (hM.below hb0)
 have HO := hid (fun (g : Nat) (ho : Own m pv AS g) => hM.own_ge ho)
 have HNO : Hid (∀ j, w.heap.size ≤ j → ¬ Own m pv AS j) := hid fun j hj ho => by have := (HO.out j ho).2; omega
 have KA := hid (add_any T B m w0 pv AS P .empty 0 0 (hT _ (Nat.le_refl _) (by have := (X3.layAlt_keep l P.length b (P ++ [X3.none_])).1; simp only [X3.layX]; simp at this; omega)).symm (hM.below hb0) (by omega) (by omega))
 have HBD := hid hBd
 have HZ := hid hB3
 obtain ⟨p0, p1, p2, p3, p4, p5⟩ := cells6 hB3.h1
 have q0 := cell1 hB3.h0
 have q2 := cell1 hB3.h2
 clear hM hBd hB3
 obtain ⟨RR, HRR⟩ : ∃ RR, Hid (RR = X3.layAlt l P.length b (P ++ [X3.none_])) := ⟨_, hid rfl⟩
 have hLX : X3.layX (.alt l) b P = (P.length, RR) := by rw [HRR.out]; rfl
 rw [hLX] at hT ⊢
 have HT : Hid (∀ k, P.length ≤ k → k < RR.length → T k = 0) := hid hT
 clear hLX hT
 have hlP : (P ++ [X3.none_]).length = P.length + 1 := by simp
 have hBd1 : X3.Bd (P ++ [X3.none_]) (P ++ [X3.none_]).length := (HBD.out.mono (by simp)).app (by simp [X3.none_]) (by simp [X3.none_])
 have HLP := hid hlP
 clear hlP
 have HS0 := hid hs0
 have hz0 : w.heap.size + 1 + 1 < w0.heap.size := by omega
 clear hs0
 go_enter Tryz.func95, Tryz.ntmps95
 go_wp2_with fail
 refine KA.out.mono ?_
 rintro e w1 ⟨pv1, rfl, hM1, hF1⟩
 have hsz1 := hF1.size
 have box0 := (hF1.same w.heap.size (by omega) (HNO.out _ (by omega))).trans HZ.out.h0
 have box1 := (hF1.same (w.heap.size + 1) (by omega) (HNO.out _ (by omega))).trans HZ.out.h1
 have box2 := (hF1.same (w.heap.size + 1 + 1) (by omega) (HNO.out _ (by omega))).trans HZ.out.h2
 have hB1 : Below B w w1 := (hb0.mono hBw).trans (hF1.below HM0.out (by omega))
 have HB1 := hid hB1
 have HM1 := hid hM1
 have hnO1 : ∀ j, w.heap.size ≤ j → j < w0.heap.size → ¬ Own m pv1 (AS ++ [.slice none 0 0]) j := fun j h1 h2 ho => by
  rcases hF1.own j ho with h | h
  ·exact HNO.out j h1 h
  ·omega
 have HNO1 := hid hnO1
 have HF1 := hid hF1
 have HBOX := hid (And.intro box0 (And.intro box1 box2))
 clear p0 p1 p2 p3 p4 p5 q0 q2 hM1 hF1 hB1 hnO1 e0
 obtain ⟨p0, p1, p2, p3, p4, p5⟩ := cells6 box1
 clear box0 box1 box2
 go_wp2_with fail
 clear p0 p1 p2 p3 p4 p5
 go_loopw [51] (fun t51 wr => ∃ (k : Nat) (pv' : Value) (AS' : List Value) (Pk : List Pl), k ≤ l.length ∧ t51 = .int .i64 (k : Int) ∧ MRep T B m wr pv' AS' Pk ∧ LF w1 wr (Own m pv1 (AS ++ [.slice none 0 0])) (Own m pv' AS') ∧ Hid (RR = X3.layAlt (l.drop k) P.length b Pk) ∧ P.length < Pk.length ∧ X3.Bd Pk Pk.length ∧ Pk.length + X3.sizeL (l.drop k) ≤ P.length + 1 + X3.sizeL l ∧ X3.muL Pk ≤ X3.muL P + 1 + 4 * X3.sizeL (l.take k)) (fun t51 _ => l.length - (RowKit.intOf t51).toNat)
 case atStart => exact ⟨0, pv1, _, _, Nat.zero_le _, rfl, HM1.out, LF.ofBelow (Below.refl _ _), by rw [List.drop_zero]; exact HRR, by show P.length < (P ++ [X3.none_]).length; rw [HLP.out]; omega, hBd1, by rw [List.drop_zero]; show (P ++ [X3.none_]).length + _ ≤ _; rw [HLP.out]; omega, by rw [List.take_zero]; show X3.muL (P ++ [X3.none_]) ≤ _; rw [X3.muL_app]; simp [X3.none_, X3.sizeL]⟩
 case round =>
  obtain ⟨k, pv', AS', Pk, hk, rfl, hMr, hF, hRk, hPk, hBk, hsk, hmu⟩ := hrel
  have hszF := hF.size
  have r0 := (hF.same w.heap.size (by omega) (HNO1.out _ (by omega) (by omega))).trans HBOX.out.1
  have r2 := (hF.same (w.heap.size + 1 + 1) (by omega) (HNO1.out _ (by omega) (by omega))).trans HBOX.out.2.2
  by_cases hlt : k < l.length
  ·have hBr : Below B w1 wr := hF.below HM1.out (by omega)
   have hszr := hF.size
   obtain ⟨kd', x', y', z', u', kv', hR, c0, c1, c2, c3, c4, c5⟩ := RepLS.at_ (HL.out.kept (keepS_B hS (HB1.out.trans hBr)) hSg hgw) k hlt
   rw [Nat.zero_add] at c0 c1 c2 c3 c4 c5
   obtain ⟨ko, kn, kc, rfl⟩ := hR.slice
   obtain ⟨wa, ea⟩ : ∃ wa, wr.alloc (.cells #[.int .i64 kd', .int .u64 x', .int .u64 y', .int .u64 z', .int .u64 u', .slice ko kn kc] 46) = wa := ⟨_, rfl⟩
   have hba : Below wr.heap.size wr wa := by rw [← ea]; exact (Below.refl _ _).alloc (Nat.le_refl _) _
   have hna : wa.heap[wr.heap.size]? = some (.cells #[.int .i64 kd', .int .u64 x', .int .u64 y', .int .u64 z', .int .u64 u', .slice ko kn kc] 46 (0, 0)) := by rw [← ea]; exact new_block _ _
   obtain ⟨q0, q1, q2, q3, q4, q5⟩ := cells6 hna
   have ra0 := (hba.block w.heap.size (by omega)).trans r0
   have ra2 := (hba.block (w.heap.size + 1 + 1) (by omega)).trans r2
   have d0 := cell1 ra0
   have d2 := cell1 ra2
   have hsa := hba.size
   have hsl : l[k].size + X3.sizeL (l.drop (k + 1)) ≤ X3.sizeL (l.drop k) := by rw [List.drop_eq_getElem_cons hlt]; simp [X3.sizeL]
   have htk := sizeL_take l k hlt
   have htl := sizeL_le l (k + 1)
   have hcb := X4.cube (X3.sizeL l) l[k].size (size_in l k hlt)
   have hsz9 : X3.sizeL l ≤ X3.sizeL l * X3.sizeL l + X3.sizeL l := by omega
   have hrl : (X3.layX l[k] b Pk).2.length ≤ RR.length := by
    rw [hRk.out, List.drop_eq_getElem_cons hlt]
    have := (X3.layAlt_keep (l.drop (k + 1)) P.length b (X3.addAlso (X3.layX l[k] b Pk).2 P.length (X3.layX l[k] b Pk).1)).1
    rw [X3.addAlso_len] at this
    simp only [X3.layAlt]; exact this
   have KI := hid (IH.out T k hlt wa _ b pv' AS' Pk (hR.kept (keepS_below hba)) (hMr.below hba) (by omega) hBk (by omega) (by have h8 := sizeL_le l k; omega) (by omega) (fun j h1 h2 => HT.out j (by omega) (by omega)))
   have HSND := hid (X3.lay_sound l[k] b Pk hBk (by omega))
   have HKEEP := hid (X3.lay_keep l[k] b Pk)
   have HST : Hid (RR = X3.layAlt (l.drop (k + 1)) P.length b (X3.addAlso (X3.layX l[k] b Pk).2 P.length (X3.layX l[k] b Pk).1)) := hid (by rw [hRk.out, List.drop_eq_getElem_cons hlt]; rfl)
   have h1 : (k : Int) < (l.length : Int) := by omega
   have h2 : (0 : Int) ≤ (k : Int) := by omega
   have HMa := hid (hMr.below hba)
   have hOr : ∀ j, w.heap.size ≤ j → j < w0.heap.size → ¬ Own m pv' AS' j := fun j g1 g2 ho => by
    rcases hF.own j ho with h | h
    ·exact HNO1.out j g1 g2 h
    ·omega
   have HOR := hid hOr
   have HF := hid hF
   have HBA := hid hba
   have HRA := hid (And.intro ra0 ra2)
   clear hR hMr hF hna hba hRk hBr hOr ra0 ra2 r0 r2 hrl
   generalize hLX : X3.layX l[k] b Pk = LX at *
   clear hLX
   obtain ⟨f, P2⟩ := LX
   go_wp2_with fail
   refine KI.out.mono ?_
   rintro e w3 ⟨pv2, AS2, rfl, hM3, hF3⟩
   have hk1 : Pk.length ≤ P2.length := HKEEP.out.1
   obtain ⟨pl0, hpl0⟩ : ∃ pl0, P2[P.length]? = some pl0 := ⟨_, List.getElem?_eq_getElem (by omega)⟩
   obtain ⟨pg, cap2, rfl⟩ := hM3.sl (by show 0 < P2.length; omega)
   replace hM3 : MRep T B m w3 (.slice (some ⟨pg, 0, none⟩) P2.length cap2) AS2 P2 := hM3
   obtain ⟨av0, hav0⟩ : ∃ av0, AS2[P.length]? = some av0 := ⟨_, List.getElem?_eq_getElem (by rw [hM3.lenA]; omega)⟩
   have hs3 := hF3.size
   have rb0 := (hF3.same w.heap.size (by omega) (HOR.out _ (by omega) (by omega))).trans HRA.out.1
   have h3 : (P.length : Int) < (P2.length : Int) := by omega
   have h4 : (0 : Int) ≤ (P.length : Int) := by omega
   have hal := X3.also_le_mu hpl0
   have hmu2 := HSND.out.mu
   replace hmu2 : X3.muL P2 ≤ X3.muL Pk + (4 * l[k].size - 1) := hmu2
   have hln2 : P2.length ≤ Pk.length + l[k].size := HSND.out.len
   have hszk := size_in l k hlt
   obtain ⟨wd, hwd⟩ : ∃ wd, w3.drew = wd := ⟨_, rfl⟩
   have hbd : Below w3.heap.size w3 wd := by rw [← hwd]; exact (Below.refl _ _).drew
   have hsd : wd.heap.size = w3.heap.size := by rw [← hwd]; rfl
   have HMd := hid (hM3.below hbd)
   have HFd := hid (hF3.trans (LF.ofBelow hbd))
   have rd0 := (hbd.block w.heap.size (by omega)).trans rb0
   have HRD := hid rd0
   have cd := HMd.out.cellat hpl0 hav0
   have cm : wd.cell? ⟨m, 0, none⟩ = some (.slice (some ⟨pg, 0, none⟩) P2.length cap2) := by rw [Lib.cell_of_heap HMd.out.box]; rfl
   have c7 := (cd.1 7 (by decide)).trans (plc7 _ _ _)
   have ck := cell1 rd0
   have hpg3 := (hM3.row.lt pg rfl).1
   have hOk : ∀ j, Own m (.slice (some ⟨pg, 0, none⟩) P2.length cap2) AS2 j → j ≠ w.heap.size := fun j ho e => by
    subst e
    rcases hF3.own _ ho with h | h
    ·exact HOR.out _ (by omega) (by omega) h
    ·omega
   have HOK := hid hOk
   clear hM3 hF3 hbd cd rd0 rb0 d0 d2 q0 q1 q2 q3 q4 q5 c0 c1 c2 c3 c4 c5 hOk
   go_upto_region 17 with fail
   refine region_T 18 (fun w' => w'.cell? ⟨m, 0, none⟩ = some (.slice (some ⟨pg, 0, none⟩) P2.length cap2) ∧ w'.cell? ⟨pg, P.length * 9 + 7, none⟩ = some av0 ∧ w'.cell? ⟨w.heap.size, 0, none⟩ = some (.pointer (some ⟨m, 0, none⟩))) (by kernel_rfl) (by rw [hwd]; exact ⟨cm, c7, ck⟩) (fun inv hHeld => ?_)
   rw [hwd] at hHeld ⊢
   clear hwd
   refine anyT_take (i := 0) (oi := { dst := some 59, op := Op.load 127 (Operand.tmp 3), type := 127, pos := "nfa.go:128", after := #[], guard := none }) (v := ?_) rfl (by kernel_rfl) (by kernel_rfl) (by kernel_rfl) (by decide) (by decide) (by kernel_rfl) (by kernel_rfl) (fun _ _ _ h => h) (Or.inl ⟨by rfl, ?_⟩) hHeld inv (fun inv => ?_)
   rotate_left
   ·intro w hSw
    try dsimp only at hSw
    go_simp
    try with_reducible rfl
   simp only [Act.put, List.setIfInBounds_toArray, List.set_cons_zero, List.set_cons_succ]
   refine anyT_take (i := 1) (oi := { dst := some 60, op := Op.nilCheck (Operand.tmp 59), type := 0, pos := "nfa.go:128", after := #[{ on := 0, ground := Ground.data }], guard := none }) (v := ?_) rfl (by kernel_rfl) (by kernel_rfl) (by kernel_rfl) (by decide) (by decide) (by kernel_rfl) (by kernel_rfl) (fun _ _ _ h => h) (Or.inl ⟨by rfl, ?_⟩) hHeld inv (fun inv => ?_)
   rotate_left
   ·intro w hSw
    try dsimp only at hSw
    go_simp
    try with_reducible rfl
   simp only [Act.put, List.setIfInBounds_toArray, List.set_cons_zero, List.set_cons_succ]
   refine anyT_take (i := 2) (oi := { dst := some 61, op := Op.fieldAddr 156 (Operand.tmp 60) 0, type := 0, pos := "nfa.go:128", after := #[{ on := 1, ground := Ground.data }], guard := none }) (v := ?_) rfl (by kernel_rfl) (by kernel_rfl) (by kernel_rfl) (by decide) (by decide) (by kernel_rfl) (by kernel_rfl) (fun _ _ _ h => h) (Or.inl ⟨by rfl, ?_⟩) hHeld inv (fun inv => ?_)
   rotate_left
   ·intro w hSw
    try dsimp only at hSw
    go_simp
    try with_reducible rfl
   simp only [Act.put, List.setIfInBounds_toArray, List.set_cons_zero, List.set_cons_succ]
   refine anyT_take (i := 3) (oi := { dst := some 62, op := Op.load 154 (Operand.tmp 61), type := 154, pos := "nfa.go:128", after := #[{ on := 2, ground := Ground.data }], guard := none }) (v := ?_) rfl (by kernel_rfl) (by kernel_rfl) (by kernel_rfl) (by decide) (by decide) (by kernel_rfl) (by kernel_rfl) (fun _ _ _ h => h) (Or.inl ⟨by rfl, ?_⟩) hHeld inv (fun inv => ?_)
   rotate_left
   ·intro w hSw
    try dsimp only at hSw
    go_simp
    try with_reducible rfl
   simp only [Act.put, List.setIfInBounds_toArray, List.set_cons_zero, List.set_cons_succ]
   refine anyT_take (i := 4) (oi := { dst := some 63, op := Op.move (Operand.tmp 9), type := 3, pos := "nfa.go:128", after := #[], guard := none }) (v := ?_) rfl (by kernel_rfl) (by kernel_rfl) (by kernel_rfl) (by decide) (by decide) (by kernel_rfl) (by kernel_rfl) (fun _ _ _ h => h) (Or.inl ⟨by rfl, ?_⟩) hHeld inv (fun inv => ?_)
   rotate_left
   ·intro w hSw
    try dsimp only at hSw
    go_simp
    try with_reducible rfl
   simp only [Act.put, List.setIfInBounds_toArray, List.set_cons_zero, List.set_cons_succ]
   refine anyT_take (i := 5) (oi := { dst := some 64, op := Op.load 127 (Operand.tmp 3), type := 127, pos := "nfa.go:128", after := #[], guard := none }) (v := ?_) rfl (by kernel_rfl) (by kernel_rfl) (by kernel_rfl) (by decide) (by decide) (by kernel_rfl) (by kernel_rfl) (fun _ _ _ h => h) (Or.inl ⟨by rfl, ?_⟩) hHeld inv (fun inv => ?_)
   rotate_left
   ·intro w hSw
    try dsimp only at hSw
    go_simp
    try with_reducible rfl
   simp only [Act.put, List.setIfInBounds_toArray, List.set_cons_zero, List.set_cons_succ]
   refine anyT_take (i := 6) (oi := { dst := some 65, op := Op.nilCheck (Operand.tmp 64), type := 0, pos := "nfa.go:128", after := #[{ on := 5, ground := Ground.data }], guard := none }) (v := ?_) rfl (by kernel_rfl) (by kernel_rfl) (by kernel_rfl) (by decide) (by decide) (by kernel_rfl) (by kernel_rfl) (fun _ _ _ h => h) (Or.inl ⟨by rfl, ?_⟩) hHeld inv (fun inv => ?_)
   rotate_left
   ·intro w hSw
    try dsimp only at hSw
    go_simp
    try with_reducible rfl
   simp only [Act.put, List.setIfInBounds_toArray, List.set_cons_zero, List.set_cons_succ]
   refine anyT_take (i := 7) (oi := { dst := some 66, op := Op.fieldAddr 156 (Operand.tmp 65) 0, type := 0, pos := "nfa.go:128", after := #[{ on := 6, ground := Ground.data }], guard := none }) (v := ?_) rfl (by kernel_rfl) (by kernel_rfl) (by kernel_rfl) (by decide) (by decide) (by kernel_rfl) (by kernel_rfl) (fun _ _ _ h => h) (Or.inl ⟨by rfl, ?_⟩) hHeld inv (fun inv => ?_)
   rotate_left
   ·intro w hSw
    try dsimp only at hSw
    go_simp
    try with_reducible rfl
   simp only [Act.put, List.setIfInBounds_toArray, List.set_cons_zero, List.set_cons_succ]
   refine anyT_take (i := 8) (oi := { dst := some 67, op := Op.load 154 (Operand.tmp 66), type := 154, pos := "nfa.go:128", after := #[{ on := 7, ground := Ground.data }], guard := none }) (v := ?_) rfl (by kernel_rfl) (by kernel_rfl) (by kernel_rfl) (by decide) (by decide) (by kernel_rfl) (by kernel_rfl) (fun _ _ _ h => h) (Or.inl ⟨by rfl, ?_⟩) hHeld inv (fun inv => ?_)
   rotate_left
   ·intro w hSw
    try dsimp only at hSw
    go_simp
    try with_reducible rfl
   simp only [Act.put, List.setIfInBounds_toArray, List.set_cons_zero, List.set_cons_succ]
   refine anyT_take (i := 9) (oi := { dst := some 68, op := Op.move (Operand.tmp 9), type := 3, pos := "nfa.go:128", after := #[], guard := none }) (v := ?_) rfl (by kernel_rfl) (by kernel_rfl) (by kernel_rfl) (by decide) (by decide) (by kernel_rfl) (by kernel_rfl) (fun _ _ _ h => h) (Or.inl ⟨by rfl, ?_⟩) hHeld inv (fun inv => ?_)
   rotate_left
   ·intro w hSw
    try dsimp only at hSw
    go_simp
    try with_reducible rfl
   simp only [Act.put, List.setIfInBounds_toArray, List.set_cons_zero, List.set_cons_succ]
   refine anyT_take (i := 10) (oi := { dst := some 69, op := Op.indexAddr 154 (Operand.tmp 67) (Operand.tmp 68), type := 0, pos := "nfa.go:128", after := #[{ on := 8, ground := Ground.data }, { on := 9, ground := Ground.data }], guard := none }) (v := ?_) rfl (by kernel_rfl) (by kernel_rfl) (by kernel_rfl) (by decide) (by decide) (by kernel_rfl) (by kernel_rfl) (fun _ _ _ h => h) (Or.inl ⟨by rfl, ?_⟩) hHeld inv (fun inv => ?_)
   rotate_left
   ·intro w hSw
    try dsimp only at hSw
    go_simp
    try with_reducible rfl
   simp only [Act.put, List.setIfInBounds_toArray, List.set_cons_zero, List.set_cons_succ]
   refine anyT_take (i := 11) (oi := { dst := some 70, op := Op.fieldAddr 159 (Operand.tmp 69) 2, type := 0, pos := "nfa.go:128", after := #[{ on := 10, ground := Ground.data }], guard := none }) (v := ?_) rfl (by kernel_rfl) (by kernel_rfl) (by kernel_rfl) (by decide) (by decide) (by kernel_rfl) (by kernel_rfl) (fun _ _ _ h => h) (Or.inl ⟨by rfl, ?_⟩) hHeld inv (fun inv => ?_)
   rotate_left
   ·intro w hSw
    try dsimp only at hSw
    go_simp
    try with_reducible rfl
   simp only [Act.put, List.setIfInBounds_toArray, List.set_cons_zero, List.set_cons_succ]
   refine anyT_take (i := 12) (oi := { dst := some 71, op := Op.load 87 (Operand.tmp 70), type := 87, pos := "nfa.go:128", after := #[{ on := 11, ground := Ground.data }], guard := none }) (v := ?_) rfl (by kernel_rfl) (by kernel_rfl) (by kernel_rfl) (by decide) (by decide) (by kernel_rfl) (by kernel_rfl) (fun _ _ _ h => h) (Or.inl ⟨by rfl, ?_⟩) hHeld inv (fun inv => ?_)
   rotate_left
   ·intro w hSw
    try dsimp only at hSw
    go_simp
    try with_reducible rfl
   simp only [Act.put, List.setIfInBounds_toArray, List.set_cons_zero, List.set_cons_succ]
   refine anyT_take (i := 13) (oi := { dst := some 72, op := Op.move (Operand.tmp 12), type := 3, pos := "nfa.go:128", after := #[], guard := none }) (v := ?_) rfl (by kernel_rfl) (by kernel_rfl) (by kernel_rfl) (by decide) (by decide) (by kernel_rfl) (by kernel_rfl) (fun _ _ _ h => h) (Or.inl ⟨by rfl, ?_⟩) hHeld inv (fun inv => ?_)
   rotate_left
   ·intro w hSw
    try dsimp only at hSw
    go_simp
    try with_reducible rfl
   simp only [Act.put, List.setIfInBounds_toArray, List.set_cons_zero, List.set_cons_succ]
   obtain ⟨w4, e4⟩ : ∃ w4, wd.alloc (.cells #[.int .i64 (f : Int)] 3) = w4 := ⟨_, rfl⟩
   have hb4 : Below wd.heap.size wd w4 := by rw [← e4]; exact (Below.refl _ _).alloc (Nat.le_refl _) _
   have hn4 : w4.heap[wd.heap.size]? = some (.cells #[.int .i64 (f : Int)] 3 (0, 0)) := by rw [← e4]; exact new_block _ _
   have hs4 : w4.heap.size = wd.heap.size + 1 := by rw [← e4]; simp
   have HM4 := hid (HMd.out.below hb4)
   have cd4 := HM4.out.cellat hpl0 hav0
   have cm4 : w4.cell? ⟨m, 0, none⟩ = some (.slice (some ⟨pg, 0, none⟩) P2.length cap2) := by rw [Lib.cell_of_heap HM4.out.box]; rfl
   have c74 := (cd4.1 7 (by decide)).trans (plc7 _ _ _)
   have rk4 := (hb4.block w.heap.size (by omega)).trans HRD.out
   have ck4 := cell1 rk4
   have HR4 := hid rk4
   clear cd4 rk4
   refine anyT_next (i := 14) (o := { dst := some 73, op := Op.buildSlice 87 1 #[(0, Operand.tmp 72)], type := 87, pos := "nfa.go:128", after := #[{ on := 13, ground := Ground.data }], guard := none }) (by kernel_rfl) rfl (by decide) inv (fun inv K' hK => ?_)
   go_simp
   refine hK.out _ _ ⟨cm4, c74, ck4⟩ ?_
   clear hK K'
   try simp only [Act.put, List.setIfInBounds_toArray, List.set_cons_zero, List.set_cons_succ]
   obtain ⟨i0, hi, hq0, hq1, hq2⟩ := info_parts info3
   refine anyT_next (i := 15) (o := { dst := some 74, op := Op.call { callee := Callee.builtin Builtin.append, args := #[Operand.tmp 71, Operand.tmp 73], argTypes := #[87, 87] }, type := 87, pos := "nfa.go:128", after := #[{ on := 12, ground := Ground.data }, { on := 14, ground := Ground.data }], guard := none }) (by kernel_rfl) rfl (by decide) inv (fun inv K' hK => ?_)
   simp only [Region.wanted]
   rw [if_pos trivial]
   refine wp_append_own_at (.tmp 71) (.tmp 73) 87 rfl B 3 i0 (.int .i64 0) 1 8 Tryz.underlying87 hi hq0 hq1 hq2 rfl (by decide) av0 pl0.also.length _ rfl (HM4.out.also _ _ _ hpl0 hav0) ⟨w3.heap.size, 0, none⟩ 1 1 [.int .i64 (f : Int)] ?c0 rfl ?c1 ?c2 ?c3 ?c4 ?c5 ?_
   case c0 => simp [hsd, Act.eval]
   case c1 =>
    intro j v hj
    rw [hsd] at hn4
    have := Lib.cell_of_heap hn4 j
    rw [show (⟨w3.heap.size, 0, none⟩ : Addr).add j = ⟨w3.heap.size, j, none⟩ by simp [Addr.add]; omega]
    rw [this, ← hj]
    simp
   case c2 => intro v hv; simp at hv; rcases hv with rfl; rfl
   case c3 => unfold maxLen; omega
   case c4 => omega
   case c5 => omega
   intro v' w5 hown' hgrow hnil hat
   have hapm : av0.ownBlock ≠ some m := fun e => (HM4.out.ap1 _ _ _ hav0 e).1 rfl
   have happ : av0.ownBlock ≠ some pg := fun e => (HM4.out.ap1 _ _ _ hav0 e).2 rfl
   have hapk : av0.ownBlock ≠ some w.heap.size := fun e => HOK.out _ (.inr (.inr ⟨av0, List.mem_iff_getElem?.2 ⟨_, hav0⟩, e⟩)) rfl
   have hpgl := (HM4.out.row.lt pg rfl).2
   have hm5 := (hgrow.block m (Array.getElem?_eq_some_iff.1 HM4.out.box).1 (fun e => hapm e.symm)).trans HM4.out.box
   have cm5 : w5.cell? ⟨m, 0, none⟩ = some (.slice (some ⟨pg, 0, none⟩) P2.length cap2) := by rw [Lib.cell_of_heap hm5]; rfl
   have c75 : w5.cell? ⟨pg, P.length * 9 + 7, none⟩ = some av0 := (World.cell?_of_block (hgrow.block pg hpgl (fun e => happ e.symm))).trans c74
   have f75 : w5.frozen? ⟨pg, P.length * 9 + 7, none⟩ = false := (World.frozen?_of_block (hgrow.block pg hpgl (fun e => happ e.symm))).trans ((HM4.out.cellat hpl0 hav0).2.1 _)
   have ck5 := cell1 ((hgrow.block w.heap.size (Array.getElem?_eq_some_iff.1 HR4.out).1 (fun e => hapk e.symm)).trans HR4.out)
   obtain ⟨vo, vc, rfl⟩ : ∃ vo vc, v' = .slice vo (pl0.also.length + 1) vc := by
      rcases hown'.2 with ⟨_, h0⟩ | ⟨g, cap, cur, rfl, _⟩
      ·omega
      ·exact ⟨_, _, rfl⟩
   have hat2 : (Value.slice vo (pl0.also.length + 1) vc).ownBlock = av0.ownBlock ∨ ∃ g, (Value.slice vo (pl0.also.length + 1) vc).ownBlock = some g ∧ w4.heap.size ≤ g := hat.imp id (fun e => ⟨_, e, Nat.le_refl _⟩)
   have hown2 : w5.ownsRow B 3 1 (.slice vo (pl0.also.length + 1) vc) (pl0.also ++ [f]).length ((pl0.also ++ [f]).map fun (q : Nat) => Value.int .i64 (q : Int)) := by rw [List.length_append, List.map_append]; exact hown'
   have hmod : (P2.modify P.length fun pl => { pl with also := pl0.also ++ [f] }) = X3.addAlso P2 P.length f := X3.modify_also hpl0
   have hRS := HM4.out.restored hav0 hgrow hown2 hat2
   rw [hmod] at hRS
   have HFN := hid hRS
   have HLN := hid (LF.restored (j := P.length * 9 + 7) HM4.out hav0 hgrow hat2)
   have hsg := hgrow.size
   clear hown' hgrow hnil hat hat2 hown2 hRS hm5 hmod
   refine hK.out _ _ ⟨cm5, c75, ck5⟩ ?_
   clear hK K'
   try simp only [Act.put, List.setIfInBounds_toArray, List.set_cons_zero, List.set_cons_succ]
   refine anyT_take (i := 16) (oi := { dst := some 75, op := Op.indexAddr 154 (Operand.tmp 62) (Operand.tmp 63), type := 0, pos := "nfa.go:128", after := #[{ on := 3, ground := Ground.data }, { on := 4, ground := Ground.data }, { on := 0, ground := Ground.phase }, { on := 1, ground := Ground.phase }, { on := 2, ground := Ground.phase }, { on := 3, ground := Ground.phase }, { on := 4, ground := Ground.phase }, { on := 5, ground := Ground.phase }, { on := 6, ground := Ground.phase }, { on := 7, ground := Ground.phase }, { on := 8, ground := Ground.phase }, { on := 9, ground := Ground.phase }, { on := 10, ground := Ground.phase }, { on := 11, ground := Ground.phase }, { on := 12, ground := Ground.phase }, { on := 13, ground := Ground.phase }, { on := 14, ground := Ground.phase }, { on := 15, ground := Ground.phase }], guard := none }) (v := ?_) rfl (by kernel_rfl) (by kernel_rfl) (by kernel_rfl) (by decide) (by decide) (by kernel_rfl) (by kernel_rfl) (fun _ _ _ h => h) (Or.inl ⟨by rfl, ?_⟩) ⟨cm5, c75, ck5⟩ inv (fun inv => ?_)
   rotate_left
   ·intro w hSw
    try dsimp only at hSw
    go_simp
    try with_reducible rfl
   simp only [Act.put, List.setIfInBounds_toArray, List.set_cons_zero, List.set_cons_succ]
   refine anyT_take (i := 17) (oi := { dst := some 76, op := Op.fieldAddr 159 (Operand.tmp 75) 2, type := 0, pos := "nfa.go:128", after := #[{ on := 16, ground := Ground.data }, { on := 0, ground := Ground.phase }, { on := 1, ground := Ground.phase }, { on := 2, ground := Ground.phase }, { on := 3, ground := Ground.phase }, { on := 4, ground := Ground.phase }, { on := 5, ground := Ground.phase }, { on := 6, ground := Ground.phase }, { on := 7, ground := Ground.phase }, { on := 8, ground := Ground.phase }, { on := 9, ground := Ground.phase }, { on := 10, ground := Ground.phase }, { on := 11, ground := Ground.phase }, { on := 12, ground := Ground.phase }, { on := 13, ground := Ground.phase }, { on := 14, ground := Ground.phase }, { on := 15, ground := Ground.phase }], guard := none }) (v := ?_) rfl (by kernel_rfl) (by kernel_rfl) (by kernel_rfl) (by decide) (by decide) (by kernel_rfl) (by kernel_rfl) (fun _ _ _ h => h) (Or.inl ⟨by rfl, ?_⟩) ⟨cm5, c75, ck5⟩ inv (fun inv => ?_)
   rotate_left
   ·intro w hSw
    try dsimp only at hSw
    go_simp
    try with_reducible rfl
   simp only [Act.put, List.setIfInBounds_toArray, List.set_cons_zero, List.set_cons_succ]
   refine anyT_one (i := 18) (o := { dst := none, op := Op.store 87 (Operand.tmp 76) (Operand.tmp 74), type := 0, pos := "nfa.go:128", after := #[{ on := 17, ground := Ground.data }, { on := 15, ground := Ground.data }, { on := 15, ground := Ground.chain }, { on := 0, ground := Ground.phase }, { on := 1, ground := Ground.phase }, { on := 2, ground := Ground.phase }, { on := 3, ground := Ground.phase }, { on := 4, ground := Ground.phase }, { on := 5, ground := Ground.phase }, { on := 6, ground := Ground.phase }, { on := 7, ground := Ground.phase }, { on := 8, ground := Ground.phase }, { on := 9, ground := Ground.phase }, { on := 10, ground := Ground.phase }, { on := 11, ground := Ground.phase }, { on := 12, ground := Ground.phase }, { on := 13, ground := Ground.phase }, { on := 14, ground := Ground.phase }, { on := 15, ground := Ground.phase }], guard := none }) (by kernel_rfl) rfl (fun K' hK => ?_)
   go_simp
   refine hK.out _ _ (fun h => absurd h (by decide)) ?_
   clear hK K'
   try simp only [Act.put, List.setIfInBounds_toArray, List.set_cons_zero, List.set_cons_succ]
   refine anyT_done (by kernel_rfl) ?_ _
   go_wp2_with fail
   have hadd := X3.muL_add P2 P.length f
   refine ⟨⟨k + 1, _, _, _, by omega, rfl, HFN.out, HF.out.trans ((LF.ofBelow HBA.out).trans (HFd.out.trans ((LF.ofBelow hb4).trans HLN.out))), HST, by rw [X3.addAlso_len]; show P.length < P2.length; omega, ?_, ?_, ?_⟩, ?_⟩
   ·rw [X3.addAlso_len]; exact HSND.out.bd.addAlso HSND.out.lt
   ·rw [X3.addAlso_len]; omega
   ·have h4 := size_pos l[k]; omega
   ·show l.length - ((k : Int) + 1).toNat < l.length - ((k : Int)).toNat
    omega
  ·have h1 : ¬ (k : Int) < (l.length : Int) := by omega
   obtain rfl : k = l.length := by omega
   have hRR : RR = Pk := by rw [hRk.out, List.drop_length]; rfl
   subst hRR
   have HMr := hid hMr
   have HF := hid hF
   clear hMr hF
   go_wp2_with fail
   go_ret
   exact ⟨pv', AS', rfl, HMr.out, (LF.ofBelow hb0).trans (HF1.out.trans HF.out)⟩
end Go.Proofs.YtochckefnjobhaaGreatDoor
namespace Go.Proofs.YtochckefnjobhaaGreatDoor
open Go Go.RowKit Go.Lib
open X3 (RX Pl)
set_option linter.unusedVariables false
set_option linter.unusedSimpArgs false
set_option maxRecDepth 100000 in
set_option maxHeartbeats 8000000 in
theorem lay_star (T : Nat → Nat) (S : Nat → Prop) (B m b : Nat) (hS : ∀ g, S g → g < B) (w : World) (pv : Value) (AS : List Value) (P : List Pl) (r : RX) (g cap : Nat) (hl : RepLS S w [r] g 0) (hSg : S g) (hgw : g < w.heap.size) (hcap : 1 ≤ cap) (hM : MRep T B m w pv AS P)
  (hb : b < P.length) (hBd : X3.Bd P P.length) (hP : P.length + (1 + r.size) * (1 + r.size) * (1 + r.size) ≤ 100000000000) (hmu0 : X3.muL P + 4 * ((1 + r.size) * (1 + r.size) * (1 + r.size)) ≤ 1000000000000) (hBw : B ≤ w.heap.size) (hN : r.size ≤ 1000000)
  (hT : ∀ k, P.length ≤ k → k < (X3.layX (.star r) b P).2.length → T k = 0)
  (ih : ∀ (T : Nat → Nat) (w : World) (v : Value) (b : Nat) (pv : Value) (AS : List Value) (P : List Pl), RepS S w r v → MRep T B m w pv AS P → b < P.length → X3.Bd P P.length → P.length + r.size * r.size * r.size ≤ 100000000000 → X3.muL P + 4 * (r.size * r.size * r.size) ≤ 1000000000000 → B ≤ w.heap.size →
   (∀ j, P.length ≤ j → j < (X3.layX r b P).2.length → T j = 0) → Calls Tryz.prog 95 #[.pointer (some ⟨m, 0, none⟩), v, .int .i64 (b : Int)] w (LayP T B m w pv AS (X3.layX r b P))) :
  Calls Tryz.prog 95 #[.pointer (some ⟨m, 0, none⟩), nodeV 4 0 0 0 0 (.slice (some ⟨g, 0, none⟩) 1 cap), .int .i64 (b : Int)] w (LayP T B m w pv AS (X3.layX (.star r) b P)) := by
 have IH := hid ih
 have HL := hid hl
 clear ih hl
 have hgB := hS g hSg
 have hc0 := X4.cube r.size r.size (Nat.le_refl _)
 have hse := X4.star_eq r b P
 have hl1 : (X3.layX (.star r) b P).2.length = (X3.layX r P.length (P ++ [X3.none_])).2.length := by simp only [X3.layX]; exact X3.setAlso_len _ _ _
 have hk1 := (X3.lay_keep r P.length (P ++ [X3.none_])).1
 simp only [List.length_append, List.length_singleton] at hk1
 obtain ⟨w0, e0, hB3⟩ := boxes3 m b 4 0 0 0 0 (.slice (some ⟨g, 0, none⟩) 1 cap) w
 have hb0 := hB3.bl
 have hs0 := hB3.sz
 have HM0 := hid (hM.below hb0)
 have HO := hid (fun (g : Nat) (ho : Own m pv AS g) => hM.own_ge ho)
 have HNO : Hid (∀ j, w.heap.size ≤ j → ¬ Own m pv AS j) := hid fun j hj ho => by have := (HO.out j ho).2; omega
 have KA := hid (add_any T B m w0 pv AS P .empty 0 0 (hT _ (Nat.le_refl _) (by omega)).symm (hM.below hb0) (by omega) (by omega))
 have HBD := hid hBd
 have HZ := hid hB3
 obtain ⟨p0, p1, p2, p3, p4, p5⟩ := cells6 hB3.h1
 have q0 := cell1 hB3.h0
 have q2 := cell1 hB3.h2
 clear hM hBd hB3
 have hlS : (X3.setAlso (P ++ [X3.none_]) P.length [b]).length = P.length + 1 := by rw [X3.setAlso_len]; simp
 have hBdS : X3.Bd (X3.setAlso (P ++ [X3.none_]) P.length [b]) (X3.setAlso (P ++ [X3.none_]) P.length [b]).length := by
  rw [hlS]
  exact ((HBD.out.mono (Nat.le_succ _)).app (by simp [X3.none_]) (by simp [X3.none_])).setAlso (by simp; omega)
 have hmS : X3.muL (X3.setAlso (P ++ [X3.none_]) P.length [b]) ≤ X3.muL P + 2 := by
  have := X3.muL_set (P ++ [X3.none_]) P.length [b]
  rw [X3.muL_app] at this
  have e1 : X3.none_.also.length = 0 := rfl
  have e2 : ([b] : List Nat).length = 1 := rfl
  omega
 have hTS : ∀ j, P.length + 1 ≤ j → j < (X3.layX r P.length (X3.setAlso (P ++ [X3.none_]) P.length [b])).2.length → T j = 0 := fun j h1 h2 => hT j (by omega) (by
  rw [← hse.2, X3.addAlso_len]; exact h2)
 obtain ⟨RR, HRR⟩ : ∃ RR, Hid (RR = X3.layX (.star r) b P) := ⟨_, hid rfl⟩
 have hR1 : Hid (RR.1 = P.length) := hid (by rw [HRR.out]; rfl)
 have hRS : Hid (RR.2 = X3.addAlso (X3.layX r P.length (X3.setAlso (P ++ [X3.none_]) P.length [b])).2 P.length (X3.layX r P.length (X3.setAlso (P ++ [X3.none_]) P.length [b])).1) := hid (by rw [HRR.out]; exact hse.2.symm)
 have HLS := hid hlS
 have HBDS := hid hBdS
 have HTS := hid hTS
 rw [← HRR.out]
 have hz0 : w.heap.size + 1 + 1 < w0.heap.size := by omega
 clear hse hl1 hk1 hs0 hlS hBdS hTS hT HRR
 go_enter Tryz.func95, Tryz.ntmps95
 go_wp2_with fail
 refine KA.out.mono ?_
 rintro e w1 ⟨pv1, rfl, hM1, hF1⟩
 have hsz1 := hF1.size
 have box0 := (hF1.same w.heap.size (by omega) (HNO.out _ (by omega))).trans HZ.out.h0
 have box1 := (hF1.same (w.heap.size + 1) (by omega) (HNO.out _ (by omega))).trans HZ.out.h1
 have box2 := (hF1.same (w.heap.size + 1 + 1) (by omega) (HNO.out _ (by omega))).trans HZ.out.h2
 have hB1 : Below B w w1 := (hb0.mono hBw).trans (hF1.below HM0.out (by omega))
 have HB1 := hid hB1
 have hnO1 : ∀ j, w.heap.size ≤ j → j < w0.heap.size → ¬ Own m pv1 (AS ++ [.slice none 0 0]) j := fun j h1 h2 ho => by
  rcases hF1.own j ho with h | h
  ·exact HNO.out j h1 h
  ·omega
 obtain ⟨pg, cap1, rfl⟩ := hM1.sl (by simp)
 have hln1 : (P ++ [X3.none_]).length = P.length + 1 := by simp
 replace hM1 : MRep T B m w1 (.slice (some ⟨pg, 0, none⟩) (P ++ [X3.none_]).length cap1) (AS ++ [.slice none 0 0]) (P ++ [X3.none_]) := hM1
 replace hF1 : LF w0 w1 (Own m pv AS) (Own m (.slice (some ⟨pg, 0, none⟩) (P ++ [X3.none_]).length cap1) (AS ++ [.slice none 0 0])) := hF1
 replace hnO1 : ∀ j, w.heap.size ≤ j → j < w0.heap.size → ¬ Own m (.slice (some ⟨pg, 0, none⟩) (P ++ [X3.none_]).length cap1) (AS ++ [.slice none 0 0]) j := hnO1
 rw [hln1] at hM1 hF1 hnO1
 have hp1 : (P ++ [X3.none_])[P.length]? = some X3.none_ := by simp
 have hav1 : (AS ++ [Value.slice none 0 0])[P.length]? = some (.slice none 0 0) := by
  have := hM1.lenA
  rw [List.getElem?_append_right (by simp at this; omega)]
  have e : P.length - AS.length = 0 := by simp at this; omega
  rw [e]; rfl
 obtain ⟨wd, hwd⟩ : ∃ wd, w1.drew = wd := ⟨_, rfl⟩
 have hbd : Below w1.heap.size w1 wd := by rw [← hwd]; exact (Below.refl _ _).drew
 have hsd : wd.heap.size = w1.heap.size := by rw [← hwd]; rfl
 have HMd := hid (hM1.below hbd)
 have HFd := hid (hF1.trans (LF.ofBelow hbd))
 have HNO1 := hid hnO1
 have d0 := (hbd.block w.heap.size (by omega)).trans box0
 have d1 := (hbd.block (w.heap.size + 1) (by omega)).trans box1
 have d2 := (hbd.block (w.heap.size + 1 + 1) (by omega)).trans box2
 have cd := HMd.out.cellat hp1 hav1
 have cm : wd.cell? ⟨m, 0, none⟩ = some (.slice (some ⟨pg, 0, none⟩) (P.length + 1) cap1) := by rw [Lib.cell_of_heap HMd.out.box]; rfl
 have c7 := (cd.1 7 (by decide)).trans (plc7 _ _ _)
 have ck := cell1 d0
 have cb := cell1 d2
 have h3 : (P.length : Int) < (P.length : Int) + 1 := by omega
 have h4 : (0 : Int) ≤ (P.length : Int) := by omega
 have HD := hid (And.intro d0 (And.intro d1 d2))
 have HAV := hid hav1
 have HP1 := hid hp1
 clear p0 p1 p2 p3 p4 p5 q0 q2 hM1 hF1 hB1 hnO1 hbd cd d0 d1 d2 box0 box1 box2 hln1 hp1 hav1 e0
 go_upto_region 22 with fail
 refine region_T 9 (fun w' => w'.cell? ⟨m, 0, none⟩ = some (.slice (some ⟨pg, 0, none⟩) (P.length + 1) cap1) ∧ w'.cell? ⟨w.heap.size, 0, none⟩ = some (.pointer (some ⟨m, 0, none⟩)) ∧ w'.cell? ⟨w.heap.size + 1 + 1, 0, none⟩ = some (.int .i64 (b : Int))) (by kernel_rfl) (by rw [hwd]; exact ⟨cm, ck, cb⟩) (fun inv hHeld => ?_)
 rw [hwd] at hHeld ⊢
 clear hwd
 refine anyT_take (i := 0) (oi := { dst := some 84, op := Op.load 127 (Operand.tmp 3), type := 127, pos := "nfa.go:133", after := #[], guard := none }) (v := ?_) rfl (by kernel_rfl) (by kernel_rfl) (by kernel_rfl) (by decide) (by decide) (by kernel_rfl) (by kernel_rfl) (fun _ _ _ h => h) (Or.inl ⟨by rfl, ?_⟩) hHeld inv (fun inv => ?_)
 rotate_left
 ·intro w hSw
  try dsimp only at hSw
  go_simp
  try with_reducible rfl
 simp only [Act.put, List.setIfInBounds_toArray, List.set_cons_zero, List.set_cons_succ]
 refine anyT_take (i := 1) (oi := { dst := some 85, op := Op.nilCheck (Operand.tmp 84), type := 0, pos := "nfa.go:133", after := #[{ on := 0, ground := Ground.data }], guard := none }) (v := ?_) rfl (by kernel_rfl) (by kernel_rfl) (by kernel_rfl) (by decide) (by decide) (by kernel_rfl) (by kernel_rfl) (fun _ _ _ h => h) (Or.inl ⟨by rfl, ?_⟩) hHeld inv (fun inv => ?_)
 rotate_left
 ·intro w hSw
  try dsimp only at hSw
  go_simp
  try with_reducible rfl
 simp only [Act.put, List.setIfInBounds_toArray, List.set_cons_zero, List.set_cons_succ]
 refine anyT_take (i := 2) (oi := { dst := some 86, op := Op.fieldAddr 156 (Operand.tmp 85) 0, type := 0, pos := "nfa.go:133", after := #[{ on := 1, ground := Ground.data }], guard := none }) (v := ?_) rfl (by kernel_rfl) (by kernel_rfl) (by kernel_rfl) (by decide) (by decide) (by kernel_rfl) (by kernel_rfl) (fun _ _ _ h => h) (Or.inl ⟨by rfl, ?_⟩) hHeld inv (fun inv => ?_)
 rotate_left
 ·intro w hSw
  try dsimp only at hSw
  go_simp
  try with_reducible rfl
 simp only [Act.put, List.setIfInBounds_toArray, List.set_cons_zero, List.set_cons_succ]
 refine anyT_take (i := 3) (oi := { dst := some 87, op := Op.load 154 (Operand.tmp 86), type := 154, pos := "nfa.go:133", after := #[{ on := 2, ground := Ground.data }], guard := none }) (v := ?_) rfl (by kernel_rfl) (by kernel_rfl) (by kernel_rfl) (by decide) (by decide) (by kernel_rfl) (by kernel_rfl) (fun _ _ _ h => h) (Or.inl ⟨by rfl, ?_⟩) hHeld inv (fun inv => ?_)
 rotate_left
 ·intro w hSw
  try dsimp only at hSw
  go_simp
  try with_reducible rfl
 simp only [Act.put, List.setIfInBounds_toArray, List.set_cons_zero, List.set_cons_succ]
 refine anyT_take (i := 4) (oi := { dst := some 88, op := Op.move (Operand.tmp 13), type := 3, pos := "nfa.go:133", after := #[], guard := none }) (v := ?_) rfl (by kernel_rfl) (by kernel_rfl) (by kernel_rfl) (by decide) (by decide) (by kernel_rfl) (by kernel_rfl) (fun _ _ _ h => h) (Or.inl ⟨by rfl, ?_⟩) hHeld inv (fun inv => ?_)
 rotate_left
 ·intro w hSw
  try dsimp only at hSw
  go_simp
  try with_reducible rfl
 simp only [Act.put, List.setIfInBounds_toArray, List.set_cons_zero, List.set_cons_succ]
 refine anyT_take (i := 5) (oi := { dst := some 89, op := Op.load 3 (Operand.tmp 5), type := 3, pos := "nfa.go:133", after := #[], guard := none }) (v := ?_) rfl (by kernel_rfl) (by kernel_rfl) (by kernel_rfl) (by decide) (by decide) (by kernel_rfl) (by kernel_rfl) (fun _ _ _ h => h) (Or.inl ⟨by rfl, ?_⟩) hHeld inv (fun inv => ?_)
 rotate_left
 ·intro w hSw
  try dsimp only at hSw
  go_simp
  try with_reducible rfl
 simp only [Act.put, List.setIfInBounds_toArray, List.set_cons_zero, List.set_cons_succ]
 obtain ⟨w4, e4⟩ : ∃ w4, wd.alloc (.cells #[.int .i64 (b : Int)] 3) = w4 := ⟨_, rfl⟩
 have hb4 : Below wd.heap.size wd w4 := by rw [← e4]; exact (Below.refl _ _).alloc (Nat.le_refl _) _
 have hn4 : w4.heap[wd.heap.size]? = some (.cells #[.int .i64 (b : Int)] 3 (0, 0)) := by rw [← e4]; exact new_block _ _
 have hg4 : wd.grownBy w4 (Value.slice none 0 0).ownBlock := by rw [← e4]; exact World.grownBy_alloc _ _ _
 have hs4 : w4.heap.size = wd.heap.size + 1 := by rw [← e4]; simp
 have HM4 := hid (HMd.out.below hb4)
 have cm4 : w4.cell? ⟨m, 0, none⟩ = some (.slice (some ⟨pg, 0, none⟩) (P.length + 1) cap1) := by rw [Lib.cell_of_heap HM4.out.box]; rfl
 have g0 := (hb4.block w.heap.size (by omega)).trans HD.out.1
 have g1 := (hb4.block (w.heap.size + 1) (by omega)).trans HD.out.2.1
 have g2 := (hb4.block (w.heap.size + 1 + 1) (by omega)).trans HD.out.2.2
 have ck4 := cell1 g0
 have cb4 := cell1 g2
 have cd4 := HM4.out.cellat HP1.out HAV.out
 have f7 := cd4.2.1 (P.length * 9 + 7)
 have hown : w4.ownsRow B 3 1 (.slice (some ⟨wd.heap.size, 0, none⟩) 1 1) [b].length ([b].map fun (q : Nat) => Value.int .i64 (q : Int)) := ⟨rfl, .inr ⟨wd.heap.size, 1, _, rfl, by omega, hn4, Nat.le_refl _, by decide, rfl, rfl⟩⟩
 have hRS4 := HMd.out.restored HAV.out hg4 hown (.inr ⟨_, rfl, Nat.le_refl _⟩)
 have HF4 : Hid (MRep T B m (w4.setCell ⟨pg, P.length * 9 + 7, none⟩ (.slice (some ⟨wd.heap.size, 0, none⟩) 1 1)) (.slice (some ⟨pg, 0, none⟩) (P.length + 1) cap1) ((AS ++ [Value.slice none 0 0]).set P.length (.slice (some ⟨wd.heap.size, 0, none⟩) 1 1)) (X3.setAlso (P ++ [X3.none_]) P.length [b])) := hid hRS4
 have HL4 := hid (LF.restored (j := P.length * 9 + 7) HMd.out HAV.out hg4 (.inr ⟨_, rfl, Nat.le_refl _⟩) (av := .slice (some ⟨wd.heap.size, 0, none⟩) 1 1))
 have HG4 := hid (And.intro g0 (And.intro g1 g2))
 have HS4 := hid (And.intro hsd hs4)
 have c74 := (cd4.1 7 (by decide)).trans (plc7 _ _ _)
 clear hown hRS4 hn4 hg4 cd4 g0 g1 g2 hsd
 have hws : wd.heap.size < w4.heap.size := by omega
 clear hs4
 refine anyT_next (i := 6) (o := { dst := some 90, op := Op.buildSlice 87 1 #[(0, Operand.tmp 89)], type := 87, pos := "nfa.go:133", after := #[{ on := 5, ground := Ground.data }], guard := none }) (by kernel_rfl) rfl (by decide) inv (fun inv K' hK => ?_)
 go_simp
 refine hK.out _ _ ⟨cm4, ck4, cb4⟩ ?_
 clear hK K'
 try simp only [Act.put, List.setIfInBounds_toArray, List.set_cons_zero, List.set_cons_succ]
 refine anyT_take (i := 7) (oi := { dst := some 91, op := Op.indexAddr 154 (Operand.tmp 87) (Operand.tmp 88), type := 0, pos := "nfa.go:133", after := #[{ on := 3, ground := Ground.data }, { on := 4, ground := Ground.data }, { on := 0, ground := Ground.phase }, { on := 1, ground := Ground.phase }, { on := 2, ground := Ground.phase }, { on := 3, ground := Ground.phase }, { on := 4, ground := Ground.phase }, { on := 5, ground := Ground.phase }, { on := 6, ground := Ground.phase }], guard := none }) (v := ?_) rfl (by kernel_rfl) (by kernel_rfl) (by kernel_rfl) (by decide) (by decide) (by kernel_rfl) (by kernel_rfl) (fun _ _ _ h => h) (Or.inl ⟨by rfl, ?_⟩) ⟨cm4, ck4, cb4⟩ inv (fun inv => ?_)
 rotate_left
 ·intro w hSw
  try dsimp only at hSw
  go_simp
  try with_reducible rfl
 simp only [Act.put, List.setIfInBounds_toArray, List.set_cons_zero, List.set_cons_succ]
 refine anyT_take (i := 8) (oi := { dst := some 92, op := Op.fieldAddr 159 (Operand.tmp 91) 2, type := 0, pos := "nfa.go:133", after := #[{ on := 7, ground := Ground.data }, { on := 0, ground := Ground.phase }, { on := 1, ground := Ground.phase }, { on := 2, ground := Ground.phase }, { on := 3, ground := Ground.phase }, { on := 4, ground := Ground.phase }, { on := 5, ground := Ground.phase }, { on := 6, ground := Ground.phase }], guard := none }) (v := ?_) rfl (by kernel_rfl) (by kernel_rfl) (by kernel_rfl) (by decide) (by decide) (by kernel_rfl) (by kernel_rfl) (fun _ _ _ h => h) (Or.inl ⟨by rfl, ?_⟩) ⟨cm4, ck4, cb4⟩ inv (fun inv => ?_)
 rotate_left
 ·intro w hSw
  try dsimp only at hSw
  go_simp
  try with_reducible rfl
 simp only [Act.put, List.setIfInBounds_toArray, List.set_cons_zero, List.set_cons_succ]
 refine anyT_one (i := 9) (o := { dst := none, op := Op.store 87 (Operand.tmp 92) (Operand.tmp 90), type := 0, pos := "nfa.go:133", after := #[{ on := 8, ground := Ground.data }, { on := 6, ground := Ground.data }, { on := 0, ground := Ground.phase }, { on := 1, ground := Ground.phase }, { on := 2, ground := Ground.phase }, { on := 3, ground := Ground.phase }, { on := 4, ground := Ground.phase }, { on := 5, ground := Ground.phase }, { on := 6, ground := Ground.phase }], guard := none }) (by kernel_rfl) rfl (fun K' hK => ?_)
 go_simp
 refine hK.out _ _ (fun h => absurd h (by decide)) ?_
 clear hK K'
 try simp only [Act.put, List.setIfInBounds_toArray, List.set_cons_zero, List.set_cons_succ]
 refine anyT_done (by kernel_rfl) ?_ _
 generalize w4.setCell ⟨pg, P.length * 9 + 7, none⟩ (.slice (some ⟨wd.heap.size, 0, none⟩) 1 1) = w5 at HF4 HL4 ⊢
 generalize (AS ++ [Value.slice none 0 0]).set P.length (.slice (some ⟨wd.heap.size, 0, none⟩) 1 1) = AS5 at HF4 HL4
 have hF5 := HFd.out.trans HL4.out
 have hs5 := hF5.size
 have hB5 : Below B w w5 := (hb0.mono hBw).trans (hF5.below HM0.out (by omega))
 have hnO5 : ∀ j, w.heap.size ≤ j → j < w0.heap.size → ¬ Own m (.slice (some ⟨pg, 0, none⟩) (P.length + 1) cap1) AS5 j := fun j h1 h2 ho => by
  rcases hF5.own j ho with h | h
  ·exact HNO.out j h1 h
  ·omega
 have b0 := (hF5.same w.heap.size (by omega) (HNO.out _ (by omega))).trans HZ.out.h0
 have b1 := (hF5.same (w.heap.size + 1) (by omega) (HNO.out _ (by omega))).trans HZ.out.h1
 have b2 := (hF5.same (w.heap.size + 1 + 1) (by omega) (HNO.out _ (by omega))).trans HZ.out.h2
 obtain ⟨wd2, hwd2⟩ : ∃ wd2, w5.drew = wd2 := ⟨_, rfl⟩
 have hbd2 : Below w5.heap.size w5 wd2 := by rw [← hwd2]; exact (Below.refl _ _).drew
 have r0 := (hbd2.block w.heap.size (by omega)).trans b0
 have r1 := (hbd2.block (w.heap.size + 1) (by omega)).trans b1
 have hB6 : Below B w wd2 := hB5.trans (hbd2.mono (by omega))
 obtain ⟨kd', x', y', z', u', kv', hR, c0, c1, c2, c3, c4, c5⟩ := RepLS.at_ (HL.out.kept (keepS_B hS hB6) hSg hgw) 0 (by simp)
 obtain ⟨ko, kn, kc, rfl⟩ := hR.slice
 replace hR : RepS S wd2 r _ := hR
 replace c0 : wd2.cell? ⟨g, 0, none⟩ = _ := c0
 replace c1 : wd2.cell? ⟨g, 1, none⟩ = _ := c1
 replace c2 : wd2.cell? ⟨g, 2, none⟩ = _ := c2
 replace c3 : wd2.cell? ⟨g, 3, none⟩ = _ := c3
 replace c4 : wd2.cell? ⟨g, 4, none⟩ = _ := c4
 replace c5 : wd2.cell? ⟨g, 5, none⟩ = _ := c5
 obtain ⟨p0, p1, p2, p3, p4, p5⟩ := cells6 b1
 obtain ⟨s0, s1, s2, s3, s4, s5⟩ := cells6 r1
 have t0 := cell1 r0
 have KI := hid (IH.out T wd2 _ P.length (.slice (some ⟨pg, 0, none⟩) (P.length + 1) cap1) AS5 (X3.setAlso (P ++ [X3.none_]) P.length [b]) hR (HF4.out.below hbd2) (by rw [HLS.out]; omega) HBDS.out (by rw [HLS.out]; omega) (by omega) (by have := hbd2.size; omega) (fun j h1 h2 => HTS.out j (by rw [HLS.out] at h1; exact h1) h2))
 have HSND := hid (X3.lay_sound r P.length (X3.setAlso (P ++ [X3.none_]) P.length [b]) HBDS.out (by rw [HLS.out]; omega))
 have HKEEP := hid (X3.lay_keep r P.length (X3.setAlso (P ++ [X3.none_]) P.length [b]))
 have HF5 := hid (hF5.trans (LF.ofBelow hbd2))
 have HM5 := hid HF4.out
 have HNO5 := hid hnO5
 have HR0 := hid r0
 have hs6 := hbd2.size
 clear hR hF5 hB5 hB6 hnO5 b0 b1 b2 r0 r1 HF4 HL4 HG4 HS4 HM4 HMd HFd HD HAV HP1 IH KA cm c7 ck cb cm4 ck4 cb4 f7 c74 hHeld inv e4 hb4
 go_wp2_with fail
 go_upto_region 24 with fail
 refine region_T 7 (fun w' => w'.cell? ⟨w.heap.size, 0, none⟩ = some (.pointer (some ⟨m, 0, none⟩)) ∧ w'.cell? ⟨w.heap.size + 1, 5, none⟩ = some (.slice (some ⟨g, 0, none⟩) 1 cap) ∧ w'.cell? ⟨g, 0, none⟩ = some (.int .i64 kd') ∧ w'.cell? ⟨g, 1, none⟩ = some (.int .u64 x') ∧ w'.cell? ⟨g, 2, none⟩ = some (.int .u64 y') ∧ w'.cell? ⟨g, 3, none⟩ = some (.int .u64 z') ∧ w'.cell? ⟨g, 4, none⟩ = some (.int .u64 u') ∧ w'.cell? ⟨g, 5, none⟩ = some (.slice ko kn kc)) (by kernel_rfl) (by rw [hwd2]; exact ⟨t0, s5, c0, c1, c2, c3, c4, c5⟩) (fun inv hHeld => ?_)
 rw [hwd2] at hHeld ⊢
 clear hwd2
 refine anyT_take (i := 0) (oi := { dst := some 97, op := Op.load 127 (Operand.tmp 3), type := 127, pos := "nfa.go:135", after := #[], guard := none }) (v := ?_) rfl (by kernel_rfl) (by kernel_rfl) (by kernel_rfl) (by decide) (by decide) (by kernel_rfl) (by kernel_rfl) (fun _ _ _ h => h) (Or.inl ⟨by rfl, ?_⟩) hHeld inv (fun inv => ?_)
 rotate_left
 ·intro w hSw
  try dsimp only at hSw
  go_simp
  try with_reducible rfl
 simp only [Act.put, List.setIfInBounds_toArray, List.set_cons_zero, List.set_cons_succ]
 refine anyT_take (i := 1) (oi := { dst := some 98, op := Op.fieldAddr 46 (Operand.tmp 4) 2, type := 0, pos := "nfa.go:135", after := #[], guard := none }) (v := ?_) rfl (by kernel_rfl) (by kernel_rfl) (by kernel_rfl) (by decide) (by decide) (by kernel_rfl) (by kernel_rfl) (fun _ _ _ h => h) (Or.inl ⟨by rfl, ?_⟩) hHeld inv (fun inv => ?_)
 rotate_left
 ·intro w hSw
  try dsimp only at hSw
  go_simp
  try with_reducible rfl
 simp only [Act.put, List.setIfInBounds_toArray, List.set_cons_zero, List.set_cons_succ]
 refine anyT_take (i := 2) (oi := { dst := some 99, op := Op.load 44 (Operand.tmp 98), type := 44, pos := "nfa.go:135", after := #[{ on := 1, ground := Ground.data }], guard := none }) (v := ?_) rfl (by kernel_rfl) (by kernel_rfl) (by kernel_rfl) (by decide) (by decide) (by kernel_rfl) (by kernel_rfl) (fun _ _ _ h => h) (Or.inl ⟨by rfl, ?_⟩) hHeld inv (fun inv => ?_)
 rotate_left
 ·intro w hSw
  try dsimp only at hSw
  go_simp
  try with_reducible rfl
 simp only [Act.put, List.setIfInBounds_toArray, List.set_cons_zero, List.set_cons_succ]
 refine anyT_take (i := 3) (oi := { dst := some 100, op := Op.indexAddr 44 (Operand.tmp 99) (Operand.const (Value.int IntKind.i64 0)), type := 0, pos := "nfa.go:135", after := #[{ on := 2, ground := Ground.data }], guard := none }) (v := ?_) rfl (by kernel_rfl) (by kernel_rfl) (by kernel_rfl) (by decide) (by decide) (by kernel_rfl) (by kernel_rfl) (fun _ _ _ h => h) (Or.inl ⟨by rfl, ?_⟩) hHeld inv (fun inv => ?_)
 rotate_left
 ·intro w hSw
  try dsimp only at hSw
  go_simp
  try with_reducible rfl
 simp only [Act.put, List.setIfInBounds_toArray, List.set_cons_zero, List.set_cons_succ]
 refine anyT_take (i := 4) (oi := { dst := some 101, op := Op.load 46 (Operand.tmp 100), type := 46, pos := "nfa.go:135", after := #[{ on := 3, ground := Ground.data }], guard := none }) (v := ?_) rfl (by kernel_rfl) (by kernel_rfl) (by kernel_rfl) (by decide) (by decide) (by kernel_rfl) (by kernel_rfl) (fun _ _ _ h => h) (Or.inl ⟨by rfl, ?_⟩) hHeld inv (fun inv => ?_)
 rotate_left
 ·intro w hSw
  try dsimp only at hSw
  go_simp
  try with_reducible rfl
 simp only [Act.put, List.setIfInBounds_toArray, List.set_cons_zero, List.set_cons_succ]
 refine anyT_take (i := 5) (oi := { dst := some 102, op := Op.move (Operand.tmp 13), type := 3, pos := "nfa.go:135", after := #[], guard := none }) (v := ?_) rfl (by kernel_rfl) (by kernel_rfl) (by kernel_rfl) (by decide) (by decide) (by kernel_rfl) (by kernel_rfl) (fun _ _ _ h => h) (Or.inl ⟨by rfl, ?_⟩) hHeld inv (fun inv => ?_)
 rotate_left
 ·intro w hSw
  try dsimp only at hSw
  go_simp
  try with_reducible rfl
 simp only [Act.put, List.setIfInBounds_toArray, List.set_cons_zero, List.set_cons_succ]
 refine anyT_next (i := 6) (o := { dst := some 103, op := Op.call { callee := Callee.value (Operand.func 95), args := #[Operand.tmp 97, Operand.tmp 101, Operand.tmp 102], argTypes := #[127, 46, 3] }, type := 3, pos := "nfa.go:135", after := #[{ on := 0, ground := Ground.data }, { on := 4, ground := Ground.data }, { on := 5, ground := Ground.data }], guard := none }) (by kernel_rfl) rfl (by decide) inv (fun inv K' hK => ?_)
 go_simp
 have HS6 := hid (And.intro t0 (And.intro s5 (And.intro c0 (And.intro c1 (And.intro c2 (And.intro c3 (And.intro c4 c5)))))))
 have HM6 := hid (HM5.out.below hbd2)
 have HP12 : Hid (RR.2 = X3.addAlso (X3.layX r P.length (X3.setAlso (P ++ [X3.none_]) P.length [b])).2 P.length (X3.layX r P.length (X3.setAlso (P ++ [X3.none_]) P.length [b])).1) := hRS
 clear p0 p1 p2 p3 p4 p5 s0 s1 s2 s3 s4 s5 t0 c0 c1 c2 c3 c4 c5 hRS HBDS HTS hbd2
 generalize hP1e : X3.setAlso (P ++ [X3.none_]) P.length [b] = P1 at *
 clear hP1e
 generalize hLXe : X3.layX r P.length P1 = LX at *
 clear hLXe
 obtain ⟨f, P2⟩ := LX
 have hlP1 : P1.length = P.length + 1 := HLS.out
 refine KI.out.mono ?_
 rintro e w3 ⟨pv2, AS2, rfl, hM3, hF3⟩
 have hk1 : P1.length ≤ P2.length := HKEEP.out.1
 obtain ⟨pl0, hpl0⟩ : ∃ pl0, P2[P.length]? = some pl0 := ⟨_, List.getElem?_eq_getElem (by omega)⟩
 obtain ⟨pg2, cap2, rfl⟩ := hM3.sl (by show 0 < P2.length; omega)
 replace hM3 : MRep T B m w3 (.slice (some ⟨pg2, 0, none⟩) P2.length cap2) AS2 P2 := hM3
 obtain ⟨av0, hav0⟩ : ∃ av0, AS2[P.length]? = some av0 := ⟨_, List.getElem?_eq_getElem (by rw [hM3.lenA]; omega)⟩
 have hs3 := hF3.size
 have rb0 := (hF3.same w.heap.size (by omega) (HNO5.out _ (by omega) (by omega))).trans HR0.out
 have rb1 := World.cell?_of_block (a := ⟨w.heap.size + 1, 5, none⟩) (hF3.same (w.heap.size + 1) (by omega) (HNO5.out _ (by omega) (by omega)))
 have rbg := fun q => World.cell?_of_block (a := ⟨g, q, none⟩) ((hF3.below HM6.out (by omega)).block g hgB)
 have hd : w3.cell? ⟨w.heap.size, 0, none⟩ = some (.pointer (some ⟨m, 0, none⟩)) ∧ w3.cell? ⟨w.heap.size + 1, 5, none⟩ = some (.slice (some ⟨g, 0, none⟩) 1 cap) ∧ w3.cell? ⟨g, 0, none⟩ = some (.int .i64 kd') ∧ w3.cell? ⟨g, 1, none⟩ = some (.int .u64 x') ∧ w3.cell? ⟨g, 2, none⟩ = some (.int .u64 y') ∧ w3.cell? ⟨g, 3, none⟩ = some (.int .u64 z') ∧ w3.cell? ⟨g, 4, none⟩ = some (.int .u64 u') ∧ w3.cell? ⟨g, 5, none⟩ = some (.slice ko kn kc) := ⟨cell1 rb0, rb1.trans HS6.out.2.1, (rbg 0).trans HS6.out.2.2.1, (rbg 1).trans HS6.out.2.2.2.1, (rbg 2).trans HS6.out.2.2.2.2.1, (rbg 3).trans HS6.out.2.2.2.2.2.1, (rbg 4).trans HS6.out.2.2.2.2.2.2.1, (rbg 5).trans HS6.out.2.2.2.2.2.2.2⟩
 have h3 : (P.length : Int) < (P2.length : Int) := by omega
 have h4 : (0 : Int) ≤ (P.length : Int) := by omega
 have hal := X3.also_le_mu hpl0
 have hmu2 := HSND.out.mu
 replace hmu2 : X3.muL P2 ≤ X3.muL P1 + (4 * r.size - 1) := hmu2
 have hln2 : P2.length ≤ P1.length + r.size := HSND.out.len
 obtain ⟨wd, hwd⟩ : ∃ wd, w3.drew = wd := ⟨_, rfl⟩
 have hbd : Below w3.heap.size w3 wd := by rw [← hwd]; exact (Below.refl _ _).drew
 have hsd : wd.heap.size = w3.heap.size := by rw [← hwd]; rfl
 have HMd := hid (hM3.below hbd)
 have HFd := hid (hF3.trans (LF.ofBelow hbd))
 have rd0 := (hbd.block w.heap.size (by omega)).trans rb0
 have HRD := hid rd0
 have cd := HMd.out.cellat hpl0 hav0
 have cm : wd.cell? ⟨m, 0, none⟩ = some (.slice (some ⟨pg2, 0, none⟩) P2.length cap2) := by rw [Lib.cell_of_heap HMd.out.box]; rfl
 have c7 := (cd.1 7 (by decide)).trans (plc7 _ _ _)
 have ck := cell1 rd0
 have hOk : ∀ j, Own m (.slice (some ⟨pg2, 0, none⟩) P2.length cap2) AS2 j → j ≠ w.heap.size := fun j ho e => by
  subst e
  rcases hF3.own _ ho with h | h
  ·exact HNO5.out _ (by omega) (by omega) h
  ·omega
 have HOK := hid hOk
 clear hM3 hF3 hbd cd rd0 rb0 rb1 rbg hOk
 go_wp2_with fail
 refine hK.out _ _ hd ?_
 clear hK K' hd
 try simp only [Act.put, List.setIfInBounds_toArray, List.set_cons_zero, List.set_cons_succ]
 refine anyT_one (i := 7) (o := { dst := some 14, op := Op.assign (Operand.tmp 103), type := 3, pos := "nfa.go:135", after := #[{ on := 6, ground := Ground.data }, { on := 6, ground := Ground.chain }, { on := 0, ground := Ground.phase }, { on := 1, ground := Ground.phase }, { on := 2, ground := Ground.phase }, { on := 3, ground := Ground.phase }, { on := 4, ground := Ground.phase }, { on := 5, ground := Ground.phase }, { on := 6, ground := Ground.phase }], guard := none }) (by kernel_rfl) rfl (fun K' hK => ?_)
 go_simp
 refine hK.out _ _ (fun h => absurd h (by decide)) ?_
 clear hK K'
 try simp only [Act.put, List.setIfInBounds_toArray, List.set_cons_zero, List.set_cons_succ]
 refine anyT_done (by kernel_rfl) ?_ _
 clear hHeld inv
 go_upto_region 25 with fail
 refine region_T 18 (fun w' => w'.cell? ⟨m, 0, none⟩ = some (.slice (some ⟨pg2, 0, none⟩) P2.length cap2) ∧ w'.cell? ⟨pg2, P.length * 9 + 7, none⟩ = some av0 ∧ w'.cell? ⟨w.heap.size, 0, none⟩ = some (.pointer (some ⟨m, 0, none⟩))) (by kernel_rfl) (by rw [hwd]; exact ⟨cm, c7, ck⟩) (fun inv hHeld => ?_)
 rw [hwd] at hHeld ⊢
 clear hwd
 refine anyT_take (i := 0) (oi := { dst := some 104, op := Op.load 127 (Operand.tmp 3), type := 127, pos := "nfa.go:136", after := #[], guard := none }) (v := ?_) rfl (by kernel_rfl) (by kernel_rfl) (by kernel_rfl) (by decide) (by decide) (by kernel_rfl) (by kernel_rfl) (fun _ _ _ h => h) (Or.inl ⟨by rfl, ?_⟩) hHeld inv (fun inv => ?_)
 rotate_left
 ·intro w hSw
  try dsimp only at hSw
  go_simp
  try with_reducible rfl
 simp only [Act.put, List.setIfInBounds_toArray, List.set_cons_zero, List.set_cons_succ]
 refine anyT_take (i := 1) (oi := { dst := some 105, op := Op.nilCheck (Operand.tmp 104), type := 0, pos := "nfa.go:136", after := #[{ on := 0, ground := Ground.data }], guard := none }) (v := ?_) rfl (by kernel_rfl) (by kernel_rfl) (by kernel_rfl) (by decide) (by decide) (by kernel_rfl) (by kernel_rfl) (fun _ _ _ h => h) (Or.inl ⟨by rfl, ?_⟩) hHeld inv (fun inv => ?_)
 rotate_left
 ·intro w hSw
  try dsimp only at hSw
  go_simp
  try with_reducible rfl
 simp only [Act.put, List.setIfInBounds_toArray, List.set_cons_zero, List.set_cons_succ]
 refine anyT_take (i := 2) (oi := { dst := some 106, op := Op.fieldAddr 156 (Operand.tmp 105) 0, type := 0, pos := "nfa.go:136", after := #[{ on := 1, ground := Ground.data }], guard := none }) (v := ?_) rfl (by kernel_rfl) (by kernel_rfl) (by kernel_rfl) (by decide) (by decide) (by kernel_rfl) (by kernel_rfl) (fun _ _ _ h => h) (Or.inl ⟨by rfl, ?_⟩) hHeld inv (fun inv => ?_)
 rotate_left
 ·intro w hSw
  try dsimp only at hSw
  go_simp
  try with_reducible rfl
 simp only [Act.put, List.setIfInBounds_toArray, List.set_cons_zero, List.set_cons_succ]
 refine anyT_take (i := 3) (oi := { dst := some 107, op := Op.load 154 (Operand.tmp 106), type := 154, pos := "nfa.go:136", after := #[{ on := 2, ground := Ground.data }], guard := none }) (v := ?_) rfl (by kernel_rfl) (by kernel_rfl) (by kernel_rfl) (by decide) (by decide) (by kernel_rfl) (by kernel_rfl) (fun _ _ _ h => h) (Or.inl ⟨by rfl, ?_⟩) hHeld inv (fun inv => ?_)
 rotate_left
 ·intro w hSw
  try dsimp only at hSw
  go_simp
  try with_reducible rfl
 simp only [Act.put, List.setIfInBounds_toArray, List.set_cons_zero, List.set_cons_succ]
 refine anyT_take (i := 4) (oi := { dst := some 108, op := Op.move (Operand.tmp 13), type := 3, pos := "nfa.go:136", after := #[], guard := none }) (v := ?_) rfl (by kernel_rfl) (by kernel_rfl) (by kernel_rfl) (by decide) (by decide) (by kernel_rfl) (by kernel_rfl) (fun _ _ _ h => h) (Or.inl ⟨by rfl, ?_⟩) hHeld inv (fun inv => ?_)
 rotate_left
 ·intro w hSw
  try dsimp only at hSw
  go_simp
  try with_reducible rfl
 simp only [Act.put, List.setIfInBounds_toArray, List.set_cons_zero, List.set_cons_succ]
 refine anyT_take (i := 5) (oi := { dst := some 109, op := Op.load 127 (Operand.tmp 3), type := 127, pos := "nfa.go:136", after := #[], guard := none }) (v := ?_) rfl (by kernel_rfl) (by kernel_rfl) (by kernel_rfl) (by decide) (by decide) (by kernel_rfl) (by kernel_rfl) (fun _ _ _ h => h) (Or.inl ⟨by rfl, ?_⟩) hHeld inv (fun inv => ?_)
 rotate_left
 ·intro w hSw
  try dsimp only at hSw
  go_simp
  try with_reducible rfl
 simp only [Act.put, List.setIfInBounds_toArray, List.set_cons_zero, List.set_cons_succ]
 refine anyT_take (i := 6) (oi := { dst := some 110, op := Op.nilCheck (Operand.tmp 109), type := 0, pos := "nfa.go:136", after := #[{ on := 5, ground := Ground.data }], guard := none }) (v := ?_) rfl (by kernel_rfl) (by kernel_rfl) (by kernel_rfl) (by decide) (by decide) (by kernel_rfl) (by kernel_rfl) (fun _ _ _ h => h) (Or.inl ⟨by rfl, ?_⟩) hHeld inv (fun inv => ?_)
 rotate_left
 ·intro w hSw
  try dsimp only at hSw
  go_simp
  try with_reducible rfl
 simp only [Act.put, List.setIfInBounds_toArray, List.set_cons_zero, List.set_cons_succ]
 refine anyT_take (i := 7) (oi := { dst := some 111, op := Op.fieldAddr 156 (Operand.tmp 110) 0, type := 0, pos := "nfa.go:136", after := #[{ on := 6, ground := Ground.data }], guard := none }) (v := ?_) rfl (by kernel_rfl) (by kernel_rfl) (by kernel_rfl) (by decide) (by decide) (by kernel_rfl) (by kernel_rfl) (fun _ _ _ h => h) (Or.inl ⟨by rfl, ?_⟩) hHeld inv (fun inv => ?_)
 rotate_left
 ·intro w hSw
  try dsimp only at hSw
  go_simp
  try with_reducible rfl
 simp only [Act.put, List.setIfInBounds_toArray, List.set_cons_zero, List.set_cons_succ]
 refine anyT_take (i := 8) (oi := { dst := some 112, op := Op.load 154 (Operand.tmp 111), type := 154, pos := "nfa.go:136", after := #[{ on := 7, ground := Ground.data }], guard := none }) (v := ?_) rfl (by kernel_rfl) (by kernel_rfl) (by kernel_rfl) (by decide) (by decide) (by kernel_rfl) (by kernel_rfl) (fun _ _ _ h => h) (Or.inl ⟨by rfl, ?_⟩) hHeld inv (fun inv => ?_)
 rotate_left
 ·intro w hSw
  try dsimp only at hSw
  go_simp
  try with_reducible rfl
 simp only [Act.put, List.setIfInBounds_toArray, List.set_cons_zero, List.set_cons_succ]
 refine anyT_take (i := 9) (oi := { dst := some 113, op := Op.move (Operand.tmp 13), type := 3, pos := "nfa.go:136", after := #[], guard := none }) (v := ?_) rfl (by kernel_rfl) (by kernel_rfl) (by kernel_rfl) (by decide) (by decide) (by kernel_rfl) (by kernel_rfl) (fun _ _ _ h => h) (Or.inl ⟨by rfl, ?_⟩) hHeld inv (fun inv => ?_)
 rotate_left
 ·intro w hSw
  try dsimp only at hSw
  go_simp
  try with_reducible rfl
 simp only [Act.put, List.setIfInBounds_toArray, List.set_cons_zero, List.set_cons_succ]
 refine anyT_take (i := 10) (oi := { dst := some 114, op := Op.indexAddr 154 (Operand.tmp 112) (Operand.tmp 113), type := 0, pos := "nfa.go:136", after := #[{ on := 8, ground := Ground.data }, { on := 9, ground := Ground.data }], guard := none }) (v := ?_) rfl (by kernel_rfl) (by kernel_rfl) (by kernel_rfl) (by decide) (by decide) (by kernel_rfl) (by kernel_rfl) (fun _ _ _ h => h) (Or.inl ⟨by rfl, ?_⟩) hHeld inv (fun inv => ?_)
 rotate_left
 ·intro w hSw
  try dsimp only at hSw
  go_simp
  try with_reducible rfl
 simp only [Act.put, List.setIfInBounds_toArray, List.set_cons_zero, List.set_cons_succ]
 refine anyT_take (i := 11) (oi := { dst := some 115, op := Op.fieldAddr 159 (Operand.tmp 114) 2, type := 0, pos := "nfa.go:136", after := #[{ on := 10, ground := Ground.data }], guard := none }) (v := ?_) rfl (by kernel_rfl) (by kernel_rfl) (by kernel_rfl) (by decide) (by decide) (by kernel_rfl) (by kernel_rfl) (fun _ _ _ h => h) (Or.inl ⟨by rfl, ?_⟩) hHeld inv (fun inv => ?_)
 rotate_left
 ·intro w hSw
  try dsimp only at hSw
  go_simp
  try with_reducible rfl
 simp only [Act.put, List.setIfInBounds_toArray, List.set_cons_zero, List.set_cons_succ]
 refine anyT_take (i := 12) (oi := { dst := some 116, op := Op.load 87 (Operand.tmp 115), type := 87, pos := "nfa.go:136", after := #[{ on := 11, ground := Ground.data }], guard := none }) (v := ?_) rfl (by kernel_rfl) (by kernel_rfl) (by kernel_rfl) (by decide) (by decide) (by kernel_rfl) (by kernel_rfl) (fun _ _ _ h => h) (Or.inl ⟨by rfl, ?_⟩) hHeld inv (fun inv => ?_)
 rotate_left
 ·intro w hSw
  try dsimp only at hSw
  go_simp
  try with_reducible rfl
 simp only [Act.put, List.setIfInBounds_toArray, List.set_cons_zero, List.set_cons_succ]
 refine anyT_take (i := 13) (oi := { dst := some 117, op := Op.move (Operand.tmp 14), type := 3, pos := "nfa.go:136", after := #[], guard := none }) (v := ?_) rfl (by kernel_rfl) (by kernel_rfl) (by kernel_rfl) (by decide) (by decide) (by kernel_rfl) (by kernel_rfl) (fun _ _ _ h => h) (Or.inl ⟨by rfl, ?_⟩) hHeld inv (fun inv => ?_)
 rotate_left
 ·intro w hSw
  try dsimp only at hSw
  go_simp
  try with_reducible rfl
 simp only [Act.put, List.setIfInBounds_toArray, List.set_cons_zero, List.set_cons_succ]
 obtain ⟨w4, e4⟩ : ∃ w4, wd.alloc (.cells #[.int .i64 (f : Int)] 3) = w4 := ⟨_, rfl⟩
 have hb4 : Below wd.heap.size wd w4 := by rw [← e4]; exact (Below.refl _ _).alloc (Nat.le_refl _) _
 have hn4 : w4.heap[wd.heap.size]? = some (.cells #[.int .i64 (f : Int)] 3 (0, 0)) := by rw [← e4]; exact new_block _ _
 have hs4 : w4.heap.size = wd.heap.size + 1 := by rw [← e4]; simp
 have HM4 := hid (HMd.out.below hb4)
 have cd4 := HM4.out.cellat hpl0 hav0
 have cm4 : w4.cell? ⟨m, 0, none⟩ = some (.slice (some ⟨pg2, 0, none⟩) P2.length cap2) := by rw [Lib.cell_of_heap HM4.out.box]; rfl
 have c74 := (cd4.1 7 (by decide)).trans (plc7 _ _ _)
 have rk4 := (hb4.block w.heap.size (by omega)).trans HRD.out
 have ck4 := cell1 rk4
 have HR4 := hid rk4
 clear cd4 rk4
 refine anyT_next (i := 14) (o := { dst := some 118, op := Op.buildSlice 87 1 #[(0, Operand.tmp 117)], type := 87, pos := "nfa.go:136", after := #[{ on := 13, ground := Ground.data }], guard := none }) (by kernel_rfl) rfl (by decide) inv (fun inv K' hK => ?_)
 go_simp
 refine hK.out _ _ ⟨cm4, c74, ck4⟩ ?_
 clear hK K'
 try simp only [Act.put, List.setIfInBounds_toArray, List.set_cons_zero, List.set_cons_succ]
 obtain ⟨i0, hi, hq0, hq1, hq2⟩ := info_parts info3
 refine anyT_next (i := 15) (o := { dst := some 119, op := Op.call { callee := Callee.builtin Builtin.append, args := #[Operand.tmp 116, Operand.tmp 118], argTypes := #[87, 87] }, type := 87, pos := "nfa.go:136", after := #[{ on := 12, ground := Ground.data }, { on := 14, ground := Ground.data }], guard := none }) (by kernel_rfl) rfl (by decide) inv (fun inv K' hK => ?_)
 simp only [Region.wanted]
 rw [if_pos trivial]
 refine wp_append_own_at (.tmp 116) (.tmp 118) 87 rfl B 3 i0 (.int .i64 0) 1 8 Tryz.underlying87 hi hq0 hq1 hq2 rfl (by decide) av0 pl0.also.length _ rfl (HM4.out.also _ _ _ hpl0 hav0) ⟨w3.heap.size, 0, none⟩ 1 1 [.int .i64 (f : Int)] ?c0 rfl ?c1 ?c2 ?c3 ?c4 ?c5 ?_
 case c0 => simp [hsd, Act.eval]
 case c1 =>
  intro j v hj
  rw [hsd] at hn4
  have := Lib.cell_of_heap hn4 j
  rw [show (⟨w3.heap.size, 0, none⟩ : Addr).add j = ⟨w3.heap.size, j, none⟩ by simp [Addr.add]; omega]
  rw [this, ← hj]
  simp
 case c2 => intro v hv; simp at hv; rcases hv with rfl; rfl
 case c3 => unfold maxLen; omega
 case c4 => omega
 case c5 => omega
 intro v' w5 hown' hgrow hnil hat
 have hapm : av0.ownBlock ≠ some m := fun e => (HM4.out.ap1 _ _ _ hav0 e).1 rfl
 have happ : av0.ownBlock ≠ some pg2 := fun e => (HM4.out.ap1 _ _ _ hav0 e).2 rfl
 have hapk : av0.ownBlock ≠ some w.heap.size := fun e => HOK.out _ (.inr (.inr ⟨av0, List.mem_iff_getElem?.2 ⟨_, hav0⟩, e⟩)) rfl
 have hpgl := (HM4.out.row.lt pg2 rfl).2
 have hm5 := (hgrow.block m (Array.getElem?_eq_some_iff.1 HM4.out.box).1 (fun e => hapm e.symm)).trans HM4.out.box
 have cm5 : w5.cell? ⟨m, 0, none⟩ = some (.slice (some ⟨pg2, 0, none⟩) P2.length cap2) := by rw [Lib.cell_of_heap hm5]; rfl
 have c75 : w5.cell? ⟨pg2, P.length * 9 + 7, none⟩ = some av0 := (World.cell?_of_block (hgrow.block pg2 hpgl (fun e => happ e.symm))).trans c74
 have f75 : w5.frozen? ⟨pg2, P.length * 9 + 7, none⟩ = false := (World.frozen?_of_block (hgrow.block pg2 hpgl (fun e => happ e.symm))).trans ((HM4.out.cellat hpl0 hav0).2.1 _)
 have ck5 := cell1 ((hgrow.block w.heap.size (Array.getElem?_eq_some_iff.1 HR4.out).1 (fun e => hapk e.symm)).trans HR4.out)
 obtain ⟨vo, vc, rfl⟩ : ∃ vo vc, v' = .slice vo (pl0.also.length + 1) vc := by
      rcases hown'.2 with ⟨_, h0⟩ | ⟨g, cap, cur, rfl, _⟩
      ·omega
      ·exact ⟨_, _, rfl⟩
 have hat2 : (Value.slice vo (pl0.also.length + 1) vc).ownBlock = av0.ownBlock ∨ ∃ g, (Value.slice vo (pl0.also.length + 1) vc).ownBlock = some g ∧ w4.heap.size ≤ g := hat.imp id (fun e => ⟨_, e, Nat.le_refl _⟩)
 have hown2 : w5.ownsRow B 3 1 (.slice vo (pl0.also.length + 1) vc) (pl0.also ++ [f]).length ((pl0.also ++ [f]).map fun (q : Nat) => Value.int .i64 (q : Int)) := by rw [List.length_append, List.map_append]; exact hown'
 have hmod : (P2.modify P.length fun pl => { pl with also := pl0.also ++ [f] }) = X3.addAlso P2 P.length f := X3.modify_also hpl0
 have hRS := HM4.out.restored hav0 hgrow hown2 hat2
 rw [hmod] at hRS
 have HFN := hid hRS
 have HLN := hid (LF.restored (j := P.length * 9 + 7) HM4.out hav0 hgrow hat2)
 have hsg := hgrow.size
 clear hown' hgrow hnil hat hat2 hown2 hRS hm5 hmod
 refine hK.out _ _ ⟨cm5, c75, ck5⟩ ?_
 clear hK K'
 try simp only [Act.put, List.setIfInBounds_toArray, List.set_cons_zero, List.set_cons_succ]
 refine anyT_take (i := 16) (oi := { dst := some 120, op := Op.indexAddr 154 (Operand.tmp 107) (Operand.tmp 108), type := 0, pos := "nfa.go:136", after := #[{ on := 3, ground := Ground.data }, { on := 4, ground := Ground.data }, { on := 0, ground := Ground.phase }, { on := 1, ground := Ground.phase }, { on := 2, ground := Ground.phase }, { on := 3, ground := Ground.phase }, { on := 4, ground := Ground.phase }, { on := 5, ground := Ground.phase }, { on := 6, ground := Ground.phase }, { on := 7, ground := Ground.phase }, { on := 8, ground := Ground.phase }, { on := 9, ground := Ground.phase }, { on := 10, ground := Ground.phase }, { on := 11, ground := Ground.phase }, { on := 12, ground := Ground.phase }, { on := 13, ground := Ground.phase }, { on := 14, ground := Ground.phase }, { on := 15, ground := Ground.phase }], guard := none }) (v := ?_) rfl (by kernel_rfl) (by kernel_rfl) (by kernel_rfl) (by decide) (by decide) (by kernel_rfl) (by kernel_rfl) (fun _ _ _ h => h) (Or.inl ⟨by rfl, ?_⟩) ⟨cm5, c75, ck5⟩ inv (fun inv => ?_)
 rotate_left
 ·intro w hSw
  try dsimp only at hSw
  go_simp
  try with_reducible rfl
 simp only [Act.put, List.setIfInBounds_toArray, List.set_cons_zero, List.set_cons_succ]
 refine anyT_take (i := 17) (oi := { dst := some 121, op := Op.fieldAddr 159 (Operand.tmp 120) 2, type := 0, pos := "nfa.go:136", after := #[{ on := 16, ground := Ground.data }, { on := 0, ground := Ground.phase }, { on := 1, ground := Ground.phase }, { on := 2, ground := Ground.phase }, { on := 3, ground := Ground.phase }, { on := 4, ground := Ground.phase }, { on := 5, ground := Ground.phase }, { on := 6, ground := Ground.phase }, { on := 7, ground := Ground.phase }, { on := 8, ground := Ground.phase }, { on := 9, ground := Ground.phase }, { on := 10, ground := Ground.phase }, { on := 11, ground := Ground.phase }, { on := 12, ground := Ground.phase }, { on := 13, ground := Ground.phase }, { on := 14, ground := Ground.phase }, { on := 15, ground := Ground.phase }], guard := none }) (v := ?_) rfl (by kernel_rfl) (by kernel_rfl) (by kernel_rfl) (by decide) (by decide) (by kernel_rfl) (by kernel_rfl) (fun _ _ _ h => h) (Or.inl ⟨by rfl, ?_⟩) ⟨cm5, c75, ck5⟩ inv (fun inv => ?_)
 rotate_left
 ·intro w hSw
  try dsimp only at hSw
  go_simp
  try with_reducible rfl
 simp only [Act.put, List.setIfInBounds_toArray, List.set_cons_zero, List.set_cons_succ]
 refine anyT_one (i := 18) (o := { dst := none, op := Op.store 87 (Operand.tmp 121) (Operand.tmp 119), type := 0, pos := "nfa.go:136", after := #[{ on := 17, ground := Ground.data }, { on := 15, ground := Ground.data }, { on := 15, ground := Ground.chain }, { on := 0, ground := Ground.phase }, { on := 1, ground := Ground.phase }, { on := 2, ground := Ground.phase }, { on := 3, ground := Ground.phase }, { on := 4, ground := Ground.phase }, { on := 5, ground := Ground.phase }, { on := 6, ground := Ground.phase }, { on := 7, ground := Ground.phase }, { on := 8, ground := Ground.phase }, { on := 9, ground := Ground.phase }, { on := 10, ground := Ground.phase }, { on := 11, ground := Ground.phase }, { on := 12, ground := Ground.phase }, { on := 13, ground := Ground.phase }, { on := 14, ground := Ground.phase }, { on := 15, ground := Ground.phase }], guard := none }) (by kernel_rfl) rfl (fun K' hK => ?_)
 go_simp
 refine hK.out _ _ (fun h => absurd h (by decide)) ?_
 clear hK K'
 try simp only [Act.put, List.setIfInBounds_toArray, List.set_cons_zero, List.set_cons_succ]
 refine anyT_done (by kernel_rfl) ?_ _
 go_wp2_with fail
 go_ret
 exact ⟨_, _, by rw [hR1.out]; rfl, by rw [HP12.out]; exact HFN.out, (LF.ofBelow hb0).trans (HF5.out.trans (HFd.out.trans ((LF.ofBelow hb4).trans HLN.out)))⟩
end Go.Proofs.YtochckefnjobhaaGreatDoor
namespace Go.Proofs.YtochckefnjobhaaGreatDoor
open Go Go.RowKit Go.Lib
open X3 (RX Pl)
theorem lay_upto (S : Nat → Prop) (B m : Nat) (hS : ∀ g, S g → g < B) : ∀ (n : Nat) (r : RX), r.size ≤ n → r.size ≤ 1000000 → ∀ (T : Nat → Nat) (w : World) (v : Value) (b : Nat) (pv : Value) (AS : List Value) (P : List Pl), RepS S w r v → MRep T B m w pv AS P → b < P.length → X3.Bd P P.length → P.length + r.size * r.size * r.size ≤ 100000000000 → X3.muL P + 4 * (r.size * r.size * r.size) ≤ 1000000000000 → B ≤ w.heap.size →
  (∀ j, P.length ≤ j → j < (X3.layX r b P).2.length → T j = 0) → Calls Tryz.prog 95 #[.pointer (some ⟨m, 0, none⟩), v, .int .i64 (b : Int)] w (LayP T B m w pv AS (X3.layX r b P)) := by
 intro n
 induction n with
 | zero => intro r h0; exact absurd h0 (by have := size_pos r; omega)
 | succ n ih =>
  intro r hn hN T w v b pv AS P hR hM hb hBd hP hmu hBw hT
  cases hR with
  | empty => exact lay_empty T B m b w pv AS P hM
  | bytes x y z u => exact lay_bytes T B m b w pv AS P x y z u hM (by omega) hBw (hT _ (Nat.le_refl _) (by simp [X3.layX]))
  | cat l g cap h hc hg hw h0 =>
   have hll := length_le_sizeL l
   simp only [X3.RX.size] at hn hN hP hmu
   exact lay_cat T S B m b hS w pv AS P l g cap h hg hw hc hM hb hBd hP hmu hBw (by omega) hT (fun T k hk => ih l[k] (by have := size_in l k hk; omega) (by have := size_in l k hk; omega) T)
  | alt l g cap h hc hg hw h0 =>
   simp only [X3.RX.size] at hn hN hP hmu
   exact lay_alt T S B m b hS w pv AS P l g cap h hg hw hc hM hb hBd hP hmu hBw (by omega) hT (fun T k hk => ih l[k] (by have := size_in l k hk; omega) (by have := size_in l k hk; omega) T)
  | star r g cap h hc hg hw =>
   simp only [X3.RX.size] at hn hN hP hmu
   exact lay_star T S B m b hS w pv AS P r g cap h hg hw hc hM hb hBd hP hmu hBw (by omega) hT (fun T => ih r (by omega) (by omega) T)
theorem lay_any (S : Nat → Prop) (B m : Nat) (hS : ∀ g, S g → g < B) (r : RX) (hN : r.size ≤ 1000000) (T : Nat → Nat) (w : World) (v : Value) (b : Nat) (pv : Value) (AS : List Value) (P : List Pl) (hR : RepS S w r v) (hM : MRep T B m w pv AS P) (hb : b < P.length) (hBd : X3.Bd P P.length) (hP : P.length + r.size * r.size * r.size ≤ 100000000000) (hmu : X3.muL P + 4 * (r.size * r.size * r.size) ≤ 1000000000000) (hBw : B ≤ w.heap.size)
  (hT : ∀ j, P.length ≤ j → j < (X3.layX r b P).2.length → T j = 0) : Calls Tryz.prog 95 #[.pointer (some ⟨m, 0, none⟩), v, .int .i64 (b : Int)] w (LayP T B m w pv AS (X3.layX r b P)) :=
 lay_upto S B m hS r.size r (Nat.le_refl _) hN T w v b pv AS P hR hM hb hBd hP hmu hBw hT
end Go.Proofs.YtochckefnjobhaaGreatDoor
namespace Go.Proofs.YtochckefnjobhaaGreatDoor
open Go Go.RowKit Go.Lib
open X3 (RX Pl)
set_option linter.unusedVariables false
set_option linter.unusedSimpArgs false
set_option maxRecDepth 100000 in
set_option maxHeartbeats 4000000 in
theorem upto_kids (S : Nat → Prop) (most : Nat) (hmost : most ≤ 1000000) (w : World) (l : List X3.RX) (g cap : Nat) (kd x y z u : Int) (hl : RepLS S w l g 0) (hg : S g) (hw : g < w.heap.size) (hll : l.length < 9223372036854775808) (hcap : l.length ≤ cap)
  (ih : ∀ (k : Nat) (hk : k < l.length) (most : Nat) (hm : most ≤ 1000000) (w' : World) (v : Value), RepS S w' l[k] v → Calls Tryz.prog 93 #[v, .int .i64 (most : Int)] w' fun e w'' => e = .returned (.int .i64 ((min l[k].size (most + 1) : Nat) : Int)) ∧ Below w'.heap.size w' w'') :
  Calls Tryz.prog 93 #[nodeV kd x y z u (.slice (some ⟨g, 0, none⟩) l.length cap), .int .i64 (most : Int)] w fun e w' => e = .returned (.int .i64 ((min (1 + X3.sizeL l) (most + 1) : Nat) : Int)) ∧ Below w.heap.size w w' := by
 have IH := hid ih
 have HL := hid hl
 clear ih hl
 go_enter Tryz.func93, Tryz.ntmps93
 go_wp2_with fail
 go_loopw [5, 11] (fun n i wr => ∃ k : Nat, k ≤ l.length ∧ i = .int .i64 (k : Int) ∧ (∃ N : Nat, n = .int .i64 (N : Int) ∧ N = min (1 + X3.sizeL (l.take k)) (most + 1)) ∧ Below w.heap.size w wr) (fun _ i _ => l.length - (RowKit.intOf i).toNat)
 case atStart => exact ⟨0, by omega, rfl, ⟨1, rfl, by simp [X3.sizeL]⟩, (Below.refl _ w).alloc (Nat.le_refl _) _⟩
 case round =>
  obtain ⟨k, hk, rfl, ⟨N, rfl, hN⟩, hB⟩ := hrel
  have hle0 := sizeL_le l k
  have HN := hid hN
  have hNb : N ≤ 1000001 := by omega
  clear hN
  by_cases hlt : k < l.length
  ·obtain ⟨kd', x', y', z', u', kv', hR, c0, c1, c2, c3, c4, c5⟩ := RepLS.at_ (HL.out.kept (keepS_below hB) hg hw) k hlt
   rw [Nat.zero_add] at c0 c1 c2 c3 c4 c5
   have h1 : (k : Int) < (l.length : Int) := by omega
   have h2 : (0 : Int) ≤ (k : Int) := by omega
   obtain ⟨ko, kn, kc, rfl⟩ := hR.slice
   have hsz := sizeL_take l k hlt
   have hle := sizeL_le l (k + 1)
   by_cases hm : most < N
   ·have h3 : (most : Int) < (N : Int) := by omega
    go_wp2_with fail
    go_ret
    have hN := HN.out
    exact ⟨by rw [show min (1 + X3.sizeL l) (most + 1) = N by omega]; rfl, hB.alloc hB.size _⟩
   ·have h3 : ¬ (most : Int) < (N : Int) := by omega
    have hI := hid (IH.out k hlt (most - N) (by omega))
    have e1 : (most : Int) - (N : Int) = ((most - N : Nat) : Int) := by omega
    have b0 : (0 : Int) ≤ ((most - N : Nat) : Int) := by omega
    have b1 : ((most - N : Nat) : Int) < 9223372036854775808 := by omega
    have hM2 : N + min l[k].size (most - N + 1) = min (1 + X3.sizeL (l.take (k + 1))) (most + 1) := by have hN := HN.out; omega
    generalize min l[k].size (most - N + 1) = M2 at *
    generalize hQ : most - N = Q at *
    have HM2 := hid hM2
    have hMb : N + M2 ≤ 1000001 := by omega
    clear hQ hM2 hsz
    have a0 : (0 : Int) ≤ (N : Int) + (M2 : Int) := by omega
    have a1 : (N : Int) + (M2 : Int) < 9223372036854775808 := by omega
    go_wp2_with fail
    refine (hI.out _ _ (hR.kept (keepS_below ((Below.refl _ wr).alloc (Nat.le_refl _) _)))).mono ?_
    rintro e w2 ⟨rfl, hb2⟩
    go_wp2_with fail
    refine ⟨⟨k + 1, by omega, rfl, ⟨N + M2, rfl, HM2.out⟩, (hB.alloc hB.size _).trans (hb2.mono (by have := hB.size; simp; omega))⟩, ?_⟩
    show l.length - ((k : Int) + 1).toNat < l.length - ((k : Int)).toNat
    omega
  ·have h1 : ¬ (k : Int) < (l.length : Int) := by omega
   go_wp2_with fail
   go_ret
   obtain rfl : k = l.length := by omega
   have hN := HN.out
   rw [List.take_length] at hN
   exact ⟨by rw [← hN]; rfl, hB⟩
theorem upto_any (S : Nat → Prop) : ∀ (n : Nat) (most : Nat) (hm : most ≤ 1000000) (w : World) (r : X3.RX) (v : Value), r.size ≤ n → r.size < 9223372036854775808 → RepS S w r v →
  Calls Tryz.prog 93 #[v, .int .i64 (most : Int)] w fun e w' => e = .returned (.int .i64 ((min r.size (most + 1) : Nat) : Int)) ∧ Below w.heap.size w w' := by
 intro n
 induction n with
 | zero => intro most hm w r v h; have := size_pos r; omega
 | succ n ih =>
  intro most hm w r v hn hb hR
  have leaf : ∀ (kd x y z u : Int), Calls Tryz.prog 93 #[nodeV kd x y z u noKids, .int .i64 (most : Int)] w fun e w' => e = .returned (.int .i64 ((min 1 (most + 1) : Nat) : Int)) ∧ Below w.heap.size w w' := by
   intro kd x y z u
   rw [show min 1 (most + 1) = 1 by omega]
   go_enter Tryz.func93, Tryz.ntmps93
   go_wp2_with fail
   go_loopw [5, 11] (fun n i wr => i = .int .i64 0 ∧ n = .int .i64 1 ∧ Below w.heap.size w wr) (fun _ _ _ => 0)
   case atStart => exact ⟨rfl, rfl, (Below.refl _ w).alloc (Nat.le_refl _) _⟩
   case round =>
    obtain ⟨rfl, rfl, hB⟩ := hrel
    go_wp2_with fail
    go_ret
    exact ⟨rfl, hB⟩
  cases hR with
  | empty => exact leaf 0 0 0 0 0
  | bytes x y z u hx hy hz hu => exact leaf 1 x y z u
  | cat l g cap h hc hg hw h0 =>
   simp only [X3.RX.size] at hn hb ⊢
   have h1 := length_le_sizeL l
   exact upto_kids S most hm w l g cap 2 0 0 0 0 h hg hw (by omega) hc fun k hk m2 hm2 w' v hv => ih m2 hm2 w' _ v (by have := size_in l k hk; omega) (by have := size_in l k hk; omega) hv
  | alt l g cap h hc hg hw h0 =>
   simp only [X3.RX.size] at hn hb ⊢
   have h1 := length_le_sizeL l
   exact upto_kids S most hm w l g cap 3 0 0 0 0 h hg hw (by omega) hc fun k hk m2 hm2 w' v hv => ih m2 hm2 w' _ v (by have := size_in l k hk; omega) (by have := size_in l k hk; omega) hv
  | star r g cap h hc hg hw =>
   simp only [X3.RX.size] at hn hb ⊢
   have := upto_kids S most hm w [r] g cap 4 0 0 0 0 h hg hw (by simp) hc fun k hk m2 hm2 w' v hv => ih m2 hm2 w' _ v (by have := size_in [r] k hk; simp only [X3.sizeL] at this; omega) (by have := size_in [r] k hk; simp only [X3.sizeL] at this; omega) hv
   simp only [X3.sizeL, Nat.add_zero] at this
   exact this
end Go.Proofs.YtochckefnjobhaaGreatDoor
