/- regex's matcher: lay, of ways; lay. -/
import Derived.Test.YtndefngkkikkeaaMd
namespace Go.Proofs.Ytndefngkkikkeaa
open Go Go.RowKit Go.Lib
open X3 (RX Pl)
set_option linter.unusedVariables false
set_option linter.unusedSimpArgs false

set_option maxRecDepth 100000 in
set_option maxHeartbeats 8000000 in
theorem lay_alt (S : Nat → Prop) (B m b : Nat) (hS : ∀ g, S g → g < B) (w : World) (pv : Value) (AS : List Value) (P : List Pl) (l : List RX) (g cap : Nat) (hl : RepLS S w l g 0) (hSg : S g) (hgw : g < w.heap.size) (hcap : l.length ≤ cap) (hM : MRep B m w pv AS P) (hb : b < P.length) (hBd : X3.Bd P P.length) (hP : P.length + (1 + X3.sizeL l) ≤ 100000) (hmu0 : X3.muL P + 4 * (1 + X3.sizeL l) ≤ 1000000) (hBw : B ≤ w.heap.size)
    (ih : ∀ (k : Nat) (hk : k < l.length) (w : World) (v : Value) (b : Nat) (pv : Value) (AS : List Value) (P : List Pl), RepS S w l[k] v → MRep B m w pv AS P → b < P.length → X3.Bd P P.length → P.length + l[k].size ≤ 100000 → X3.muL P + 4 * l[k].size ≤ 1000000 → B ≤ w.heap.size → Calls Try.prog 25 #[.pointer (some ⟨m, 0, none⟩), v, .int .i64 (b : Int)] w (LayP B m w pv AS (X3.layX l[k] b P))) :
    Calls Try.prog 25 #[.pointer (some ⟨m, 0, none⟩), nodeV 3 0 0 0 0 (.slice (some ⟨g, 0, none⟩) l.length cap), .int .i64 (b : Int)] w (LayP B m w pv AS (X3.layX (.alt l) b P)) := by
  have IH := hid ih
  have HL := hid hl
  clear ih hl
  have hll : l.length ≤ 100000 := by have := length_le_sizeL l; omega
  have hgB := hS g hSg
  obtain ⟨w0, e0⟩ : ∃ w0, w.alloc (.cells #[.int .i64 3, .int .u64 0, .int .u64 0, .int .u64 0, .int .u64 0, .slice (some ⟨g, 0, none⟩) l.length cap] 28) = w0 := ⟨_, rfl⟩
  have hb0 : Below w.heap.size w w0 := by rw [← e0]; exact (Below.refl _ _).alloc (Nat.le_refl _) _
  have hz0 : w0.heap[w.heap.size]? = some (.cells #[.int .i64 3, .int .u64 0, .int .u64 0, .int .u64 0, .int .u64 0, .slice (some ⟨g, 0, none⟩) l.length cap] 28 (0, 0)) := by rw [← e0]; exact new_block _ _
  have hs0 : w0.heap.size = w.heap.size + 1 := by rw [← e0]; simp
  have HM0 := hid (hM.below hb0)
  have HO := hid (fun (g : Nat) (ho : Own m pv AS g) => hM.own_ge ho)
  have KA := hid (add_any B m w0 pv AS P .empty 0 (hM.below hb0) (by omega) (by omega))
  have HBD := hid hBd
  have HZ := hid hz0
  obtain ⟨p0, p1, p2, p3, p4, p5⟩ := cells6 hz0
  clear hM hBd hz0
  obtain ⟨RR, HRR⟩ : ∃ RR, Hid (RR = X3.layAlt l P.length b (P ++ [X3.none_])) := ⟨_, hid rfl⟩
  have hLX : X3.layX (.alt l) b P = (P.length, RR) := by rw [HRR.out]; rfl
  rw [hLX]
  clear hLX
  have hlP : (P ++ [X3.none_]).length = P.length + 1 := by simp
  have hBd1 : X3.Bd (P ++ [X3.none_]) (P ++ [X3.none_]).length := (HBD.out.mono (by simp)).app (by simp [X3.none_]) (by simp [X3.none_])
  go_enter Try.func25, Try.ntmps25
  go_wp2_with fail
  refine KA.out.mono ?_
  rintro e w1 ⟨pv1, rfl, hM1, hF1⟩
  have hsz1 := hF1.size
  have hbox := (hF1.same w.heap.size (by omega) (fun ho => by have := (HO.out _ ho).2; omega)).trans HZ.out
  have hB1 : Below B w w1 := (hb0.mono hBw).trans (hF1.below HM0.out (by omega))
  have HB1 := hid hB1
  have HM1 := hid hM1
  have HF1 := hid hF1
  clear p0 p1 p2 p3 p4 p5 hM1 hF1 hB1
  obtain ⟨p0, p1, p2, p3, p4, p5⟩ := cells6 hbox
  clear hbox
  go_wp2_with fail
  clear p0 p1 p2 p3 p4 p5
  go_loopw [57] (fun t57 wr => ∃ (k : Nat) (pv' : Value) (AS' : List Value) (Pk : List Pl), k ≤ l.length ∧ t57 = .int .i64 (k : Int) ∧ MRep B m wr pv' AS' Pk ∧ LF w1 wr (Own m pv1 (AS ++ [.slice none 0 0])) (Own m pv' AS') ∧ Hid (RR = X3.layAlt (l.drop k) P.length b Pk) ∧ P.length < Pk.length ∧ X3.Bd Pk Pk.length ∧ Pk.length + X3.sizeL (l.drop k) ≤ 100000 ∧ X3.muL Pk ≤ X3.muL P + 1 + 4 * X3.sizeL (l.take k)) (fun t57 _ => l.length - (RowKit.intOf t57).toNat)
  case atStart => exact ⟨0, pv1, _, _, Nat.zero_le _, rfl, HM1.out, LF.ofBelow (Below.refl _ _), by rw [List.drop_zero]; exact HRR, by show P.length < (P ++ [X3.none_]).length; rw [hlP]; omega, hBd1, by rw [List.drop_zero]; show (P ++ [X3.none_]).length + _ ≤ _; rw [hlP]; omega, by rw [List.take_zero]; show X3.muL (P ++ [X3.none_]) ≤ _; rw [X3.muL_app]; simp [X3.none_, X3.sizeL]⟩
  case round =>
    obtain ⟨k, pv', AS', Pk, hk, rfl, hMr, hF, hRk, hPk, hBk, hsk, hmu⟩ := hrel
    by_cases hlt : k < l.length
    · have hBr : Below B w1 wr := hF.below HM1.out (by omega)
      have hszr := hF.size
      obtain ⟨kd', x', y', z', u', kv', hR, c0, c1, c2, c3, c4, c5⟩ := RepLS.at_ (HL.out.kept (keepS_B hS (HB1.out.trans hBr)) hSg hgw) k hlt
      rw [Nat.zero_add] at c0 c1 c2 c3 c4 c5
      obtain ⟨ko, kn, kc, rfl⟩ := hR.slice
      obtain ⟨wa, ea⟩ : ∃ wa, wr.alloc (.cells #[.int .i64 kd', .int .u64 x', .int .u64 y', .int .u64 z', .int .u64 u', .slice ko kn kc] 28) = wa := ⟨_, rfl⟩
      have hba : Below wr.heap.size wr wa := by rw [← ea]; exact (Below.refl _ _).alloc (Nat.le_refl _) _
      have hna : wa.heap[wr.heap.size]? = some (.cells #[.int .i64 kd', .int .u64 x', .int .u64 y', .int .u64 z', .int .u64 u', .slice ko kn kc] 28 (0, 0)) := by rw [← ea]; exact new_block _ _
      obtain ⟨q0, q1, q2, q3, q4, q5⟩ := cells6 hna
      have hsa := hba.size
      have hsl : l[k].size + X3.sizeL (l.drop (k + 1)) ≤ X3.sizeL (l.drop k) := by rw [List.drop_eq_getElem_cons hlt]; simp [X3.sizeL]
      have htk := sizeL_take l k hlt
      have htl := sizeL_le l (k + 1)
      have KI := hid (IH.out k hlt wa _ b pv' AS' Pk (hR.kept (keepS_below hba)) (hMr.below hba) (by omega) hBk (by omega) (by omega) (by omega))
      have HSND := hid (X3.lay_sound l[k] b Pk hBk (by omega))
      have HKEEP := hid (X3.lay_keep l[k] b Pk)
      have HST : Hid (RR = X3.layAlt (l.drop (k + 1)) P.length b (X3.addAlso (X3.layX l[k] b Pk).2 P.length (X3.layX l[k] b Pk).1)) := hid (by rw [hRk.out, List.drop_eq_getElem_cons hlt]; rfl)
      have h1 : (k : Int) < (l.length : Int) := by omega
      have h2 : (0 : Int) ≤ (k : Int) := by omega
      have HMa := hid (hMr.below hba)
      have HF := hid hF
      have HBA := hid hba
      clear hR hMr hF hna hba hRk hBr
      generalize hLX : X3.layX l[k] b Pk = LX at *
      clear hLX
      obtain ⟨f, P2⟩ := LX
      go_wp2_with fail
      refine KI.out.mono ?_
      rintro e w3 ⟨pv2, AS2, rfl, hM3, hF3⟩
      have hk1 : Pk.length ≤ P2.length := HKEEP.out.1
      obtain ⟨pl0, hpl0⟩ : ∃ pl0, P2[P.length]? = some pl0 := ⟨_, List.getElem?_eq_getElem (by omega)⟩
      obtain ⟨pg, cap2, rfl⟩ := hM3.sl (by show 0 < P2.length; omega)
      replace hM3 : MRep B m w3 (.slice (some ⟨pg, 0, none⟩) P2.length cap2) AS2 P2 := hM3
      obtain ⟨av0, hav0⟩ : ∃ av0, AS2[P.length]? = some av0 := ⟨_, List.getElem?_eq_getElem (by rw [hM3.lenA]; omega)⟩
      have hs3 := hF3.size
      have h3 : (P.length : Int) < (P2.length : Int) := by omega
      have h4 : (0 : Int) ≤ (P.length : Int) := by omega
      have hal := X3.also_le_mu hpl0
      have hmu2 := HSND.out.mu
      replace hmu2 : X3.muL P2 ≤ X3.muL Pk + (4 * l[k].size - 1) := hmu2
      have hszk := size_in l k hlt
      obtain ⟨wd, hwd⟩ : ∃ wd, w3.drew = wd := ⟨_, rfl⟩
      have hbd : Below w3.heap.size w3 wd := by rw [← hwd]; exact (Below.refl _ _).drew
      have hsd : wd.heap.size = w3.heap.size := by rw [← hwd]; rfl
      have HMd := hid (hM3.below hbd)
      have HFd := hid (hF3.trans (LF.ofBelow hbd))
      have cd := HMd.out.cellat hpl0 hav0
      have cm : wd.cell? ⟨m, 0, none⟩ = some (.slice (some ⟨pg, 0, none⟩) P2.length cap2) := by rw [Lib.cell_of_heap HMd.out.box]; rfl
      have c7 := (cd.1 7 (by decide)).trans (plc7 _ _)
      clear hM3 hF3 hbd cd
      go_upto_region 18 with fail
      refine region_T 18 (fun w' => w'.cell? ⟨m, 0, none⟩ = some (.slice (some ⟨pg, 0, none⟩) P2.length cap2) ∧ w'.cell? ⟨pg, P.length * 8 + 7, none⟩ = some av0) (by kernel_rfl) (by rw [hwd]; exact ⟨cm, c7⟩) (fun inv hHeld => ?_)
      rw [hwd] at hHeld ⊢
      clear hwd
      refine anyT_take (i := 0) (oi := { dst := some 65, op := Op.move (Operand.tmp 0), type := 57, pos := "match.go:57", after := #[], guard := none }) (v := ?_) rfl (by kernel_rfl) (by kernel_rfl) (by kernel_rfl) (by decide) (by decide) (by kernel_rfl) (by kernel_rfl) (fun _ _ _ h => h) (Or.inl ⟨by rfl, ?_⟩) hHeld inv (fun inv => ?_)
      rotate_left
      · intro w hSw
        try dsimp only at hSw
        go_simp
        try with_reducible rfl
      simp only [Act.put, List.setIfInBounds_toArray, List.set_cons_zero, List.set_cons_succ]
      refine anyT_take (i := 1) (oi := { dst := some 66, op := Op.nilCheck (Operand.tmp 65), type := 0, pos := "match.go:57", after := #[{ on := 0, ground := Ground.data }], guard := none }) (v := ?_) rfl (by kernel_rfl) (by kernel_rfl) (by kernel_rfl) (by decide) (by decide) (by kernel_rfl) (by kernel_rfl) (fun _ _ _ h => h) (Or.inl ⟨by rfl, ?_⟩) hHeld inv (fun inv => ?_)
      rotate_left
      · intro w hSw
        try dsimp only at hSw
        go_simp
        try with_reducible rfl
      simp only [Act.put, List.setIfInBounds_toArray, List.set_cons_zero, List.set_cons_succ]
      refine anyT_take (i := 2) (oi := { dst := some 67, op := Op.fieldAddr 63 (Operand.tmp 66) 0, type := 0, pos := "match.go:57", after := #[{ on := 1, ground := Ground.data }], guard := none }) (v := ?_) rfl (by kernel_rfl) (by kernel_rfl) (by kernel_rfl) (by decide) (by decide) (by kernel_rfl) (by kernel_rfl) (fun _ _ _ h => h) (Or.inl ⟨by rfl, ?_⟩) hHeld inv (fun inv => ?_)
      rotate_left
      · intro w hSw
        try dsimp only at hSw
        go_simp
        try with_reducible rfl
      simp only [Act.put, List.setIfInBounds_toArray, List.set_cons_zero, List.set_cons_succ]
      refine anyT_take (i := 3) (oi := { dst := some 68, op := Op.load 61 (Operand.tmp 67), type := 61, pos := "match.go:57", after := #[{ on := 2, ground := Ground.data }], guard := none }) (v := ?_) rfl (by kernel_rfl) (by kernel_rfl) (by kernel_rfl) (by decide) (by decide) (by kernel_rfl) (by kernel_rfl) (fun _ _ _ h => h) (Or.inl ⟨by rfl, ?_⟩) hHeld inv (fun inv => ?_)
      rotate_left
      · intro w hSw
        try dsimp only at hSw
        go_simp
        try with_reducible rfl
      simp only [Act.put, List.setIfInBounds_toArray, List.set_cons_zero, List.set_cons_succ]
      refine anyT_take (i := 4) (oi := { dst := some 69, op := Op.move (Operand.tmp 8), type := 3, pos := "match.go:57", after := #[], guard := none }) (v := ?_) rfl (by kernel_rfl) (by kernel_rfl) (by kernel_rfl) (by decide) (by decide) (by kernel_rfl) (by kernel_rfl) (fun _ _ _ h => h) (Or.inl ⟨by rfl, ?_⟩) hHeld inv (fun inv => ?_)
      rotate_left
      · intro w hSw
        try dsimp only at hSw
        go_simp
        try with_reducible rfl
      simp only [Act.put, List.setIfInBounds_toArray, List.set_cons_zero, List.set_cons_succ]
      refine anyT_take (i := 5) (oi := { dst := some 70, op := Op.move (Operand.tmp 0), type := 57, pos := "match.go:57", after := #[], guard := none }) (v := ?_) rfl (by kernel_rfl) (by kernel_rfl) (by kernel_rfl) (by decide) (by decide) (by kernel_rfl) (by kernel_rfl) (fun _ _ _ h => h) (Or.inl ⟨by rfl, ?_⟩) hHeld inv (fun inv => ?_)
      rotate_left
      · intro w hSw
        try dsimp only at hSw
        go_simp
        try with_reducible rfl
      simp only [Act.put, List.setIfInBounds_toArray, List.set_cons_zero, List.set_cons_succ]
      refine anyT_take (i := 6) (oi := { dst := some 71, op := Op.nilCheck (Operand.tmp 70), type := 0, pos := "match.go:57", after := #[{ on := 5, ground := Ground.data }], guard := none }) (v := ?_) rfl (by kernel_rfl) (by kernel_rfl) (by kernel_rfl) (by decide) (by decide) (by kernel_rfl) (by kernel_rfl) (fun _ _ _ h => h) (Or.inl ⟨by rfl, ?_⟩) hHeld inv (fun inv => ?_)
      rotate_left
      · intro w hSw
        try dsimp only at hSw
        go_simp
        try with_reducible rfl
      simp only [Act.put, List.setIfInBounds_toArray, List.set_cons_zero, List.set_cons_succ]
      refine anyT_take (i := 7) (oi := { dst := some 72, op := Op.fieldAddr 63 (Operand.tmp 71) 0, type := 0, pos := "match.go:57", after := #[{ on := 6, ground := Ground.data }], guard := none }) (v := ?_) rfl (by kernel_rfl) (by kernel_rfl) (by kernel_rfl) (by decide) (by decide) (by kernel_rfl) (by kernel_rfl) (fun _ _ _ h => h) (Or.inl ⟨by rfl, ?_⟩) hHeld inv (fun inv => ?_)
      rotate_left
      · intro w hSw
        try dsimp only at hSw
        go_simp
        try with_reducible rfl
      simp only [Act.put, List.setIfInBounds_toArray, List.set_cons_zero, List.set_cons_succ]
      refine anyT_take (i := 8) (oi := { dst := some 73, op := Op.load 61 (Operand.tmp 72), type := 61, pos := "match.go:57", after := #[{ on := 7, ground := Ground.data }], guard := none }) (v := ?_) rfl (by kernel_rfl) (by kernel_rfl) (by kernel_rfl) (by decide) (by decide) (by kernel_rfl) (by kernel_rfl) (fun _ _ _ h => h) (Or.inl ⟨by rfl, ?_⟩) hHeld inv (fun inv => ?_)
      rotate_left
      · intro w hSw
        try dsimp only at hSw
        go_simp
        try with_reducible rfl
      simp only [Act.put, List.setIfInBounds_toArray, List.set_cons_zero, List.set_cons_succ]
      refine anyT_take (i := 9) (oi := { dst := some 74, op := Op.move (Operand.tmp 8), type := 3, pos := "match.go:57", after := #[], guard := none }) (v := ?_) rfl (by kernel_rfl) (by kernel_rfl) (by kernel_rfl) (by decide) (by decide) (by kernel_rfl) (by kernel_rfl) (fun _ _ _ h => h) (Or.inl ⟨by rfl, ?_⟩) hHeld inv (fun inv => ?_)
      rotate_left
      · intro w hSw
        try dsimp only at hSw
        go_simp
        try with_reducible rfl
      simp only [Act.put, List.setIfInBounds_toArray, List.set_cons_zero, List.set_cons_succ]
      refine anyT_take (i := 10) (oi := { dst := some 75, op := Op.indexAddr 61 (Operand.tmp 73) (Operand.tmp 74), type := 0, pos := "match.go:57", after := #[{ on := 8, ground := Ground.data }, { on := 9, ground := Ground.data }], guard := none }) (v := ?_) rfl (by kernel_rfl) (by kernel_rfl) (by kernel_rfl) (by decide) (by decide) (by kernel_rfl) (by kernel_rfl) (fun _ _ _ h => h) (Or.inl ⟨by rfl, ?_⟩) hHeld inv (fun inv => ?_)
      rotate_left
      · intro w hSw
        try dsimp only at hSw
        go_simp
        try with_reducible rfl
      simp only [Act.put, List.setIfInBounds_toArray, List.set_cons_zero, List.set_cons_succ]
      refine anyT_take (i := 11) (oi := { dst := some 76, op := Op.fieldAddr 60 (Operand.tmp 75) 2, type := 0, pos := "match.go:57", after := #[{ on := 10, ground := Ground.data }], guard := none }) (v := ?_) rfl (by kernel_rfl) (by kernel_rfl) (by kernel_rfl) (by decide) (by decide) (by kernel_rfl) (by kernel_rfl) (fun _ _ _ h => h) (Or.inl ⟨by rfl, ?_⟩) hHeld inv (fun inv => ?_)
      rotate_left
      · intro w hSw
        try dsimp only at hSw
        go_simp
        try with_reducible rfl
      simp only [Act.put, List.setIfInBounds_toArray, List.set_cons_zero, List.set_cons_succ]
      refine anyT_take (i := 12) (oi := { dst := some 77, op := Op.load 58 (Operand.tmp 76), type := 58, pos := "match.go:57", after := #[{ on := 11, ground := Ground.data }], guard := none }) (v := ?_) rfl (by kernel_rfl) (by kernel_rfl) (by kernel_rfl) (by decide) (by decide) (by kernel_rfl) (by kernel_rfl) (fun _ _ _ h => h) (Or.inl ⟨by rfl, ?_⟩) hHeld inv (fun inv => ?_)
      rotate_left
      · intro w hSw
        try dsimp only at hSw
        go_simp
        try with_reducible rfl
      simp only [Act.put, List.setIfInBounds_toArray, List.set_cons_zero, List.set_cons_succ]
      refine anyT_take (i := 13) (oi := { dst := some 78, op := Op.move (Operand.tmp 11), type := 3, pos := "match.go:57", after := #[], guard := none }) (v := ?_) rfl (by kernel_rfl) (by kernel_rfl) (by kernel_rfl) (by decide) (by decide) (by kernel_rfl) (by kernel_rfl) (fun _ _ _ h => h) (Or.inl ⟨by rfl, ?_⟩) hHeld inv (fun inv => ?_)
      rotate_left
      · intro w hSw
        try dsimp only at hSw
        go_simp
        try with_reducible rfl
      simp only [Act.put, List.setIfInBounds_toArray, List.set_cons_zero, List.set_cons_succ]
      obtain ⟨w4, e4⟩ : ∃ w4, wd.alloc (.cells #[.int .i64 (f : Int)] 3) = w4 := ⟨_, rfl⟩
      have hb4 : Below wd.heap.size wd w4 := by rw [← e4]; exact (Below.refl _ _).alloc (Nat.le_refl _) _
      have hn4 : w4.heap[wd.heap.size]? = some (.cells #[.int .i64 (f : Int)] 3 (0, 0)) := by rw [← e4]; exact new_block _ _
      have hs4 : w4.heap.size = wd.heap.size + 1 := by rw [← e4]; simp
      have HM4 := hid (HMd.out.below hb4)
      have cd4 := HM4.out.cellat hpl0 hav0
      have cm4 : w4.cell? ⟨m, 0, none⟩ = some (.slice (some ⟨pg, 0, none⟩) P2.length cap2) := by rw [Lib.cell_of_heap HM4.out.box]; rfl
      have c74 := (cd4.1 7 (by decide)).trans (plc7 _ _)
      clear cd4
      refine anyT_next (i := 14) (o := { dst := some 79, op := Op.buildSlice 58 1 #[(0, Operand.tmp 78)], type := 58, pos := "match.go:57", after := #[{ on := 13, ground := Ground.data }], guard := none }) (by kernel_rfl) rfl (by decide) inv (fun inv K' hK => ?_)
      go_simp
      refine hK.out _ _ ⟨cm4, c74⟩ ?_
      clear hK K'
      try simp only [Act.put, List.setIfInBounds_toArray, List.set_cons_zero, List.set_cons_succ]
      obtain ⟨i0, hi, hq0, hq1, hq2⟩ := info_parts info3
      refine anyT_next (i := 15) (o := { dst := some 80, op := Op.call { callee := Callee.builtin Builtin.append, args := #[Operand.tmp 77, Operand.tmp 79], argTypes := #[58, 58] }, type := 58, pos := "match.go:57", after := #[{ on := 12, ground := Ground.data }, { on := 14, ground := Ground.data }], guard := none }) (by kernel_rfl) rfl (by decide) inv (fun inv K' hK => ?_)
      simp only [Region.wanted]
      rw [if_pos trivial]
      refine wp_append_own_at (.tmp 77) (.tmp 79) 58 rfl B 3 i0 (.int .i64 0) 1 8 Try.underlying58 hi hq0 hq1 hq2 rfl (by decide) av0 pl0.also.length _ rfl (HM4.out.also _ _ _ hpl0 hav0) ⟨w3.heap.size, 0, none⟩ 1 1 [.int .i64 (f : Int)] ?c0 rfl ?c1 ?c2 ?c3 ?c4 ?c5 ?_
      case c0 => simp [hsd, Act.eval]
      case c1 =>
        intro j v hj
        rw [hsd] at hn4
        have := Lib.cell_of_heap hn4 j
        rw [show (⟨w3.heap.size, 0, none⟩ : Addr).add j = ⟨w3.heap.size, j, none⟩ by simp [Addr.add]; omega]
        rw [this, ← hj]
        simp
      case c2 => intro v hv; simp at hv; rcases hv with rfl; rfl
      case c3 => unfold maxLen; omega
      case c4 => omega
      case c5 => omega
      intro v' w5 hown' hgrow hnil hat
      have hapm : av0.ownBlock ≠ some m := fun e => (HM4.out.ap1 _ _ _ hav0 e).1 rfl
      have happ : av0.ownBlock ≠ some pg := fun e => (HM4.out.ap1 _ _ _ hav0 e).2 rfl
      have hpgl := (HM4.out.row.lt pg rfl).2
      have hm5 := (hgrow.block m (Array.getElem?_eq_some_iff.1 HM4.out.box).1 (fun e => hapm e.symm)).trans HM4.out.box
      have cm5 : w5.cell? ⟨m, 0, none⟩ = some (.slice (some ⟨pg, 0, none⟩) P2.length cap2) := by rw [Lib.cell_of_heap hm5]; rfl
      have c75 : w5.cell? ⟨pg, P.length * 8 + 7, none⟩ = some av0 := (World.cell?_of_block (hgrow.block pg hpgl (fun e => happ e.symm))).trans c74
      have f75 : w5.frozen? ⟨pg, P.length * 8 + 7, none⟩ = false := (World.frozen?_of_block (hgrow.block pg hpgl (fun e => happ e.symm))).trans ((HM4.out.cellat hpl0 hav0).2.1 _)
      obtain ⟨vo, vc, rfl⟩ : ∃ vo vc, v' = .slice vo (pl0.also.length + 1) vc := by
            rcases hown'.2 with ⟨_, h0⟩ | ⟨g, cap, cur, rfl, _⟩
            · omega
            · exact ⟨_, _, rfl⟩
      have hat2 : (Value.slice vo (pl0.also.length + 1) vc).ownBlock = av0.ownBlock ∨ ∃ g, (Value.slice vo (pl0.also.length + 1) vc).ownBlock = some g ∧ w4.heap.size ≤ g := hat.imp id (fun e => ⟨_, e, Nat.le_refl _⟩)
      have hown2 : w5.ownsRow B 3 1 (.slice vo (pl0.also.length + 1) vc) (pl0.also ++ [f]).length ((pl0.also ++ [f]).map fun (q : Nat) => Value.int .i64 (q : Int)) := by rw [List.length_append, List.map_append]; exact hown'
      have hmod : (P2.modify P.length fun pl => { pl with also := pl0.also ++ [f] }) = X3.addAlso P2 P.length f := X3.modify_also hpl0
      have hRS := HM4.out.restored hav0 hgrow hown2 hat2
      rw [hmod] at hRS
      have HFN := hid hRS
      have HLN := hid (LF.restored (j := P.length * 8 + 7) HM4.out hav0 hgrow hat2)
      have hsg := hgrow.size
      clear hown' hgrow hnil hat hat2 hown2 hRS hm5 hmod
      refine hK.out _ _ ⟨cm5, c75⟩ ?_
      clear hK K'
      try simp only [Act.put, List.setIfInBounds_toArray, List.set_cons_zero, List.set_cons_succ]
      refine anyT_take (i := 16) (oi := { dst := some 81, op := Op.indexAddr 61 (Operand.tmp 68) (Operand.tmp 69), type := 0, pos := "match.go:57", after := #[{ on := 3, ground := Ground.data }, { on := 4, ground := Ground.data }, { on := 0, ground := Ground.phase }, { on := 1, ground := Ground.phase }, { on := 2, ground := Ground.phase }, { on := 3, ground := Ground.phase }, { on := 4, ground := Ground.phase }, { on := 5, ground := Ground.phase }, { on := 6, ground := Ground.phase }, { on := 7, ground := Ground.phase }, { on := 8, ground := Ground.phase }, { on := 9, ground := Ground.phase }, { on := 10, ground := Ground.phase }, { on := 11, ground := Ground.phase }, { on := 12, ground := Ground.phase }, { on := 13, ground := Ground.phase }, { on := 14, ground := Ground.phase }, { on := 15, ground := Ground.phase }], guard := none }) (v := ?_) rfl (by kernel_rfl) (by kernel_rfl) (by kernel_rfl) (by decide) (by decide) (by kernel_rfl) (by kernel_rfl) (fun _ _ _ h => h) (Or.inl ⟨by rfl, ?_⟩) ⟨cm5, c75⟩ inv (fun inv => ?_)
      rotate_left
      · intro w hSw
        try dsimp only at hSw
        go_simp
        try with_reducible rfl
      simp only [Act.put, List.setIfInBounds_toArray, List.set_cons_zero, List.set_cons_succ]
      refine anyT_take (i := 17) (oi := { dst := some 82, op := Op.fieldAddr 60 (Operand.tmp 81) 2, type := 0, pos := "match.go:57", after := #[{ on := 16, ground := Ground.data }, { on := 0, ground := Ground.phase }, { on := 1, ground := Ground.phase }, { on := 2, ground := Ground.phase }, { on := 3, ground := Ground.phase }, { on := 4, ground := Ground.phase }, { on := 5, ground := Ground.phase }, { on := 6, ground := Ground.phase }, { on := 7, ground := Ground.phase }, { on := 8, ground := Ground.phase }, { on := 9, ground := Ground.phase }, { on := 10, ground := Ground.phase }, { on := 11, ground := Ground.phase }, { on := 12, ground := Ground.phase }, { on := 13, ground := Ground.phase }, { on := 14, ground := Ground.phase }, { on := 15, ground := Ground.phase }], guard := none }) (v := ?_) rfl (by kernel_rfl) (by kernel_rfl) (by kernel_rfl) (by decide) (by decide) (by kernel_rfl) (by kernel_rfl) (fun _ _ _ h => h) (Or.inl ⟨by rfl, ?_⟩) ⟨cm5, c75⟩ inv (fun inv => ?_)
      rotate_left
      · intro w hSw
        try dsimp only at hSw
        go_simp
        try with_reducible rfl
      simp only [Act.put, List.setIfInBounds_toArray, List.set_cons_zero, List.set_cons_succ]
      refine anyT_one (i := 18) (o := { dst := none, op := Op.store 58 (Operand.tmp 82) (Operand.tmp 80), type := 0, pos := "match.go:57", after := #[{ on := 17, ground := Ground.data }, { on := 15, ground := Ground.data }, { on := 15, ground := Ground.chain }, { on := 0, ground := Ground.phase }, { on := 1, ground := Ground.phase }, { on := 2, ground := Ground.phase }, { on := 3, ground := Ground.phase }, { on := 4, ground := Ground.phase }, { on := 5, ground := Ground.phase }, { on := 6, ground := Ground.phase }, { on := 7, ground := Ground.phase }, { on := 8, ground := Ground.phase }, { on := 9, ground := Ground.phase }, { on := 10, ground := Ground.phase }, { on := 11, ground := Ground.phase }, { on := 12, ground := Ground.phase }, { on := 13, ground := Ground.phase }, { on := 14, ground := Ground.phase }, { on := 15, ground := Ground.phase }], guard := none }) (by kernel_rfl) rfl (fun K' hK => ?_)
      go_simp
      refine hK.out _ _ (fun h => absurd h (by decide)) ?_
      clear hK K'
      try simp only [Act.put, List.setIfInBounds_toArray, List.set_cons_zero, List.set_cons_succ]
      refine anyT_done (by kernel_rfl) ?_ _
      go_wp2_with fail
      have hadd := X3.muL_add P2 P.length f
      refine ⟨⟨k + 1, _, _, _, by omega, rfl, HFN.out, HF.out.trans ((LF.ofBelow HBA.out).trans (HFd.out.trans ((LF.ofBelow hb4).trans HLN.out))), HST, by rw [X3.addAlso_len]; show P.length < P2.length; omega, ?_, ?_, ?_⟩, ?_⟩
      · rw [X3.addAlso_len]; exact HSND.out.bd.addAlso HSND.out.lt
      · rw [X3.addAlso_len]; have : P2.length ≤ Pk.length + l[k].size := HSND.out.len; omega
      · have h4 := size_pos l[k]; omega
      · show l.length - ((k : Int) + 1).toNat < l.length - ((k : Int)).toNat
        omega
    · have h1 : ¬ (k : Int) < (l.length : Int) := by omega
      obtain rfl : k = l.length := by omega
      have hRR : RR = Pk := by rw [hRk.out, List.drop_length]; rfl
      subst hRR
      have HMr := hid hMr
      have HF := hid hF
      clear hMr hF
      go_wp2_with fail
      go_ret
      exact ⟨pv', AS', rfl, HMr.out, (LF.ofBelow hb0).trans (HF1.out.trans HF.out)⟩


theorem lay_any (S : Nat → Prop) (B m : Nat) (hS : ∀ g, S g → g < B) : ∀ (n : Nat) (r : RX) (w : World) (v : Value) (b : Nat) (pv : Value) (AS : List Value) (P : List Pl), r.size ≤ n → RepS S w r v → MRep B m w pv AS P → b < P.length → X3.Bd P P.length → P.length + r.size ≤ 100000 → X3.muL P + 4 * r.size ≤ 1000000 → B ≤ w.heap.size →
    Calls Try.prog 25 #[.pointer (some ⟨m, 0, none⟩), v, .int .i64 (b : Int)] w (LayP B m w pv AS (X3.layX r b P)) := by
  intro n
  induction n with
  | zero => intro r w v b pv AS P h; have := size_pos r; omega
  | succ n ih =>
    intro r w v b pv AS P hn hR hM hb hBd hP hmu hB
    cases hR with
    | empty => exact lay_empty B m b w pv AS P hM
    | bytes x y z u hx hy hz hu => exact lay_bytes B m b w pv AS P x y z u hM (by omega) hB
    | cat l g cap h hc hg hw h0 =>
      simp only [X3.RX.size] at hn hP hmu
      exact lay_cat S B m b hS w pv AS P l g cap h hg hw hc hM hb hBd (by omega) (by omega) hB fun k hk w v b pv AS P h1 h2 h3 h4 h5 h6 h7 => ih l[k] w v b pv AS P (by have := size_in l k hk; omega) h1 h2 h3 h4 h5 h6 h7
    | alt l g cap h hc hg hw h0 =>
      simp only [X3.RX.size] at hn hP hmu
      exact lay_alt S B m b hS w pv AS P l g cap h hg hw hc hM hb hBd (by omega) (by omega) hB fun k hk w v b pv AS P h1 h2 h3 h4 h5 h6 h7 => ih l[k] w v b pv AS P (by have := size_in l k hk; omega) h1 h2 h3 h4 h5 h6 h7
    | star r g cap h hc hg hw =>
      simp only [X3.RX.size] at hn hP hmu
      exact lay_star S B m b hS w pv AS P r _ (.star r g cap h hc hg hw) hM hb hBd (by omega) (by omega) hB fun w v b pv AS P h1 h2 h3 h4 h5 h6 h7 => ih r w v b pv AS P (by omega) h1 h2 h3 h4 h5 h6 h7

end Go.Proofs.Ytndefngkkikkeaa
