/- MunchCuts: the walk. -/
import Derived.Test.YtochckefnjobhaaGreatDoorWo
namespace Go.Proofs.X7
open X5 (Aut runX)
open Go.Proofs.YtochckefnjobhaaGreatDoor.B1 (bitN firstOf upto)
set_option linter.unusedVariables false
theorem one_range (left : Nat) : oneX left = -1 ∨ 0 ≤ oneX left := by
  unfold oneX
  split
  · rename_i c
    cases e : upto left 64 with
    | nil => rw [e] at c; simp at c
    | cons f r => exact .inr (Int.natCast_nonneg f)
  · exact .inl rfl
/-- The pieces, one behind the other. -/
def Cuts (D : Aut) (t : List UInt8) (may : Nat) (ov : List (Int × Int)) : Int → List (Nat × Int) → Int → Prop
  | z, [], e => (pickX D t z may ov).1 = -1 ∧ e = z
  | z, p :: l, e => 0 ≤ (pickX D t z may ov).1 ∧ p = (bitN (pickX D t z may ov).1, (pickX D t z may ov).2) ∧ Cuts D t may ov (pickX D t z may ov).2 l e
theorem all_cuts (D : Aut) (t : List UInt8) (may : Nat) (ov : List (Int × Int)) : ∀ (f : Nat) (z : Int), (t.length : Int) - z < f → 0 ≤ z → z ≤ (t.length : Int) → Cuts D t may ov z (allX D t may ov f z).1 (allX D t may ov f z).2 ∧ (allX D t may ov f z).2 ≤ (t.length : Int)
  | 0, z, h, h1, h2 => by omega
  | f + 1, z, h, h1, h2 => by
    rw [allX]
    split
    · rename_i c
      exact ⟨⟨(one_range _).resolve_right (by have : (pickX D t z may ov).1 < 0 := c; unfold pickX at this; show ¬ 0 ≤ oneX _; omega), rfl⟩, h2⟩
    · rename_i c
      obtain ⟨k1, k2, k3⟩ := pick_pos D t z may ov (by omega)
      obtain ⟨i1, i2⟩ := all_cuts D t may ov f _ (by omega) (by omega) k2
      exact ⟨⟨by omega, rfl, i1⟩, i2⟩
end Go.Proofs.X7
namespace Go.Proofs.YtochckefnjobhaaGreatDoor
open Go Go.RowKit Go.Lib
open X5 (Aut)
open X7 (M64 Cuts)
set_option linter.unusedVariables false
set_option linter.unusedSimpArgs false
theorem pcells_get : ∀ (l : List (Nat × Int)) (i : Nat) (h : i < l.length), (pcells l)[i * 2]? = some (.int .u64 (l[i].1 : Int)) ∧ (pcells l)[i * 2 + 1]? = some (.int .i64 l[i].2)
  | p :: l, 0, _ => ⟨rfl, rfl⟩
  | p :: l, i + 1, h => by
    have := pcells_get l i (by simpa using h)
    have e : pcells (p :: l) = .int .u64 (p.1 : Int) :: .int .i64 p.2 :: pcells l := rfl
    rw [e, show (i + 1) * 2 = i * 2 + 1 + 1 by omega, show i * 2 + 1 + 1 + 1 = (i * 2 + 1) + 1 + 1 by omega]
    simpa using this
theorem own_len {w : World} {B n sz : Nat} {e : TypeId} {v : Value} {xs : List Value} (h : w.ownsRow B e sz v n xs) : n ≤ maxLen := by
  rcases h.2 with ⟨_, h0⟩ | ⟨g, cap, cur, h1, hB, hg, h2, h3, _⟩
  · omega
  · omega
theorem pieces_own {w : World} {B c : Nat} {o : Option Addr} {l : List (Nat × Int)} (h : w.ownsRow B 61 2 (.slice o l.length c) l.length (pcells l)) {i : Nat} (hi : i < l.length) : ∃ g, o = some ⟨g, 0, none⟩ ∧ g < w.heap.size ∧ w.cell? ⟨g, i * 2, none⟩ = some (.int .u64 (l[i].1 : Int)) ∧ w.cell? ⟨g, i * 2 + 1, none⟩ = some (.int .i64 l[i].2) := by
  obtain ⟨k0, k1⟩ := pcells_get l i hi
  rcases h.2 with ⟨h1, h0⟩ | ⟨g, cap, cur, h1, hB, hg, h2, h3, h4, h5⟩
  · omega
  · injection h1 with h1
    subst h1
    refine ⟨g, rfl, (Array.getElem?_eq_some_iff.1 hg).1, ?_, ?_⟩
    · rw [Lib.cell_of_heap hg, ← Array.getElem?_toList, ← List.getElem?_take_of_lt (show i * 2 < l.length * 2 by omega), h5, k0]
    · rw [Lib.cell_of_heap hg, ← Array.getElem?_toList, ← List.getElem?_take_of_lt (show i * 2 + 1 < l.length * 2 by omega), h5, k1]

set_option maxRecDepth 100000 in
set_option maxHeartbeats 16000000 in
theorem cuts_walk {D : Aut} {d0 : Array Value} (w : World) (hL : Lies D d0 w) (s : ByteArray) (hs : s.size ≤ maxLen) (may : Nat) (hmay : may < M64) (v : Value) (l : List (Int × Int)) (hv : OverAt w v l) (hl : l.length ≤ maxLen) {Bt : Nat} (ht : Tab Bt w) (hBt : Bt ≤ w.heap.size) :
    Calls Tryz.prog 9 #[.agg d0, .string s, .int .u64 (may : Int), v] w fun e w' => e = .returned (.bool true) ∧ Below w.heap.size w w' := by
  obtain ⟨wa, ea, hxa, hba⟩ := boxed w d0
  obtain ⟨vo, vc, rfl⟩ : ∃ vo vc, v = .slice vo l.length vc := by obtain ⟨ro, rc, e, _⟩ := hv; exact ⟨_, _, e⟩
  have HV := hid (hv.below hba)
  have HLM := hid hl
  clear hv hl
  have HL := hid (hL.below hba)
  have HX := hid hxa
  have HB := hid hba
  have K := hid (works07 wa (ht.on (hba.mono hBt)) (Nat.le_trans hBt hba.size))
  have HD := hid hL.sz
  have HSM := hid hs
  clear hL ht hxa hba hs
  go_enter Tryz.func9, Tryz.ntmps9
  go_wp2_with fail
  refine K.out.mono ?_
  rintro e w1 ⟨rfl, hb⟩
  clear K ea
  have HB1 := hid (HB.out.trans (hb.mono HB.out.size))
  have HL := hid (HL.out.below hb)
  have HX := hid (HX.out.below hb)
  have HV := hid (HV.out.below hb)
  have K := hid (few_any w1 HL.out s HSM.out vo l.length vc HLM.out)
  clear hb
  go_wp2_with fail
  refine wp_load30' (.tmp 4) rfl w.heap.size rfl d0 HX.out HD.out.1 ?_
  go_wp2_with fail
  refine K.out.mono ?_
  rintro e w2 ⟨b, rfl, hbl, hb⟩
  clear K
  have HB2 := hid (HB1.out.trans (hb.mono HB1.out.size))
  have HL := hid (HL.out.below hb)
  have HX := hid (HX.out.below hb)
  have HV := hid (HV.out.below hb)
  clear hb
  cases b with
  | false =>
    clear hbl
    go_wp2_with fail
    go_ret
    exact ⟨rfl, HB2.out⟩
  | true =>
    have HLT := hid (hbl rfl)
    have hs40 := HLT.out.2.1
    clear hbl
    have hl40 := HLT.out.2.2
    have K := hid (all_any w2 HL.out s (by omega) may hmay _ l HV.out (by omega))
    have hls : (LL s).length = s.size := Array.length_toList
    have HCU := X7.all_cuts D (LL s) may l ((LL s).length + 1) 0 (by omega) (by omega) (by omega)
    have HAT : X7.allT D (LL s) may l = X7.allX D (LL s) may l ((LL s).length + 1) 0 := rfl
    rw [← HAT, hls] at HCU
    have HCU := hid HCU
    obtain ⟨L, hLL⟩ : ∃ L, (X7.allT D (LL s) may l).1 = L := ⟨_, rfl⟩
    obtain ⟨ed, hed⟩ : ∃ ed, (X7.allT D (LL s) may l).2 = ed := ⟨_, rfl⟩
    rw [hLL, hed] at K HCU
    have HLs := hid hls
    clear HAT hLL hed hls
    go_wp2_with fail
    refine wp_load30' (.tmp 4) rfl w.heap.size rfl d0 HX.out HD.out.1 ?_
    go_wp2_with fail
    refine K.out.mono ?_
    rintro e w3 ⟨po, pcc, rfl, hrow, hb⟩
    clear K
    have HB3 := hid (HB2.out.trans (hb.mono HB2.out.size))
    have HL := hid (HL.out.below hb)
    have HX := hid (HX.out.below hb)
    have HV := hid (HV.out.below hb)
    have HROW := hid hrow
    have hLm := own_len hrow
    unfold maxLen at hLm
    clear hb hrow
    go_wp2_with fail
    go_loopw [13, 14] (fun t13 t14 wr => ∃ (k : Nat) (z : Int), k ≤ L.length ∧ t14 = .int .i64 (k : Int) ∧ t13 = .int .i64 z ∧ 0 ≤ z ∧ z ≤ (s.size : Int) ∧ Hid (Cuts D (LL s) may l z (L.drop k) ed) ∧ Hid (Below w3.heap.size w3 wr)) (fun _ t14 _ => L.length - (RowKit.intOf t14).toNat)
    case atStart => exact ⟨0, 0, Nat.zero_le _, rfl, rfl, Int.le_refl _, by omega, hid HCU.out.1, hid (Below.refl _ _)⟩
    case round =>
      obtain ⟨k, z, hk, rfl, rfl, hz0, hz1, HC, HB⟩ := hrel
      have HXr := hid (HX.out.below HB.out)
      have HVr := hid (HV.out.below HB.out)
      have HBr := hid (HB3.out.trans (HB.out.mono HB3.out.size))
      have hle := HB.out.size
      have K := hid (pick_any wr (HL.out.below HB.out) s (by omega) z may hmay _ l HVr.out (by omega))
      have HPP := hid (fun h => X7.pick_pos D (LL s) z may l h)
      by_cases hlt : k < L.length
      · have h1 : (k : Int) < (L.length : Int) := by omega
        have h2 : (0 : Int) ≤ (k : Int) := by omega
        have hC := HC.out
        rw [List.drop_eq_getElem_cons hlt] at hC
        obtain ⟨hn0, hpe, hC2⟩ := hC
        obtain ⟨g, hpo, hgl, ca, cb⟩ := pieces_own HROW.out hlt
        subst hpo
        rw [hpe] at ca cb
        obtain ⟨n, hn⟩ : ∃ n : Int, (X7.pickX D (LL s) z may l).1 = n := ⟨_, rfl⟩
        obtain ⟨z2, hz2⟩ : ∃ z2 : Int, (X7.pickX D (LL s) z may l).2 = z2 := ⟨_, rfl⟩
        have hp := HPP.out hn0
        rw [hz2, HLs.out] at hp
        rw [hn] at hn0
        rw [hz2] at hC2
        rw [hn, hz2] at K
        have ca2 : w3.cell? ⟨g, k * 2, none⟩ = some (.int .u64 (B1.bitN n : Int)) := by rw [← hn]; exact ca
        have cb2 : w3.cell? ⟨g, k * 2 + 1, none⟩ = some (.int .i64 z2) := by rw [← hz2]; exact cb
        have HC2 := hid hC2
        have HCA := hid (And.intro hgl (And.intro ca2 cb2))
        clear hpe hC2 ca cb ca2 cb2 hgl hn hz2
        go_wp2_with fail
        refine wp_load30' (.tmp 4) rfl w.heap.size rfl d0 HXr.out HD.out.1 ?_
        go_wp2_with fail
        refine K.out.mono ?_
        rintro e w5 ⟨rfl, hb⟩
        clear K
        have HB5 := hid (HB.out.trans (hb.mono hle))
        have HBr5 := hid (HBr.out.trans (hb.mono HBr.out.size))
        have hle5 := HB5.out.size
        clear hb
        obtain ⟨we, ewe⟩ : ∃ we, w5.drew = we := ⟨_, rfl⟩
        have hbe : Below w5.heap.size w5 we := by rw [← ewe]; exact (Below.refl _ _).drew
        have HBE := hid (HB5.out.trans (hbe.mono hle5))
        have HBF := hid (HBr5.out.trans (hbe.mono HBr5.out.size))
        have hleE := HBE.out.size
        have HS := hid (fun (w' : World) (h : Below w3.heap.size w3 w') => And.intro (cell_bel h HCA.out.1 HCA.out.2.1) (cell_bel h HCA.out.1 HCA.out.2.2))
        have HH0 := HS.out we HBE.out
        have kn : ¬ n < 0 := by omega
        have kz : ¬ z2 ≤ z := by omega
        have kn2 : decide (n < 0) = false := decide_eq_false kn
        have kz2 : decide (z2 ≤ z) = false := decide_eq_false kz
        clear hbe
        go_wp2_with fail
        refine region_T 26 (fun w' => w'.cell? ⟨g, k * 2, none⟩ = some (.int .u64 (B1.bitN n : Int)) ∧ w'.cell? ⟨g, k * 2 + 1, none⟩ = some (.int .i64 z2)) (by kernel_rfl) (by rw [ewe]; exact HH0) (fun inv hHeld => ?_)
        rw [ewe]
        clear hHeld ewe
        refine anyT_take (i := 0) (oi := { dst := some 52, op := Go.Op.move (Go.Operand.tmp 15), type := 3, pos := "law.go:125", after := #[], guard := none }) (v := ?_) rfl (by kernel_rfl) (by kernel_rfl) (by kernel_rfl) (by decide) (by decide) (by kernel_rfl) (by kernel_rfl) (fun _ _ _ h => h) (Or.inl ⟨by rfl, ?_⟩) HH0 inv (fun inv => ?_)
        rotate_left
        · intro w hSw
          try dsimp only at hSw
          go_simp
          try with_reducible rfl
        simp only [Act.put, List.setIfInBounds_toArray, List.set_cons_zero, List.set_cons_succ]
        refine anyT_take (i := 1) (oi := { dst := some 53, op := Go.Op.binOp Go.BinOp.lss 3 (Go.Operand.tmp 52) (Go.Operand.const (Go.Value.int Go.IntKind.i64 0)) 3, type := 4, pos := "law.go:125", after := #[{ on := 0, ground := Go.Ground.data }], guard := none }) (v := ?_) rfl (by kernel_rfl) (by kernel_rfl) (by kernel_rfl) (by decide) (by decide) (by kernel_rfl) (by kernel_rfl) (fun _ _ _ h => h) (Or.inl ⟨by rfl, ?_⟩) HH0 inv (fun inv => ?_)
        rotate_left
        · intro w hSw
          try dsimp only at hSw
          go_simp
          try with_reducible rfl
        simp only [Act.put, List.setIfInBounds_toArray, List.set_cons_zero, List.set_cons_succ]
        refine anyT_take (i := 2) (oi := { dst := some 54, op := Go.Op.move (Go.Operand.tmp 53), type := 4, pos := "law.go:125", after := #[{ on := 1, ground := Go.Ground.data }], guard := none }) (v := ?_) rfl (by kernel_rfl) (by kernel_rfl) (by kernel_rfl) (by decide) (by decide) (by kernel_rfl) (by kernel_rfl) (fun _ _ _ h => h) (Or.inl ⟨by rfl, ?_⟩) HH0 inv (fun inv => ?_)
        rotate_left
        · intro w hSw
          try dsimp only at hSw
          go_simp
          try with_reducible rfl
        simp only [Act.put, List.setIfInBounds_toArray, List.set_cons_zero, List.set_cons_succ]
        refine anyT_take (i := 3) (oi := { dst := some 55, op := Go.Op.move (Go.Operand.tmp 11), type := 70, pos := "law.go:125", after := #[{ on := 2, ground := Go.Ground.guard }], guard := some (2, false) }) (v := ?_) rfl (by kernel_rfl) (by kernel_rfl) (by kernel_rfl) (by decide) (by decide) (by kernel_rfl) (by kernel_rfl) (fun _ _ _ h => h) (Or.inl ⟨by rfl, ?_⟩) HH0 inv (fun inv => ?_)
        rotate_left
        · intro w hSw
          try dsimp only at hSw
          go_simp
          try with_reducible rfl
        simp only [Act.put, List.setIfInBounds_toArray, List.set_cons_zero, List.set_cons_succ]
        refine anyT_take (i := 4) (oi := { dst := some 56, op := Go.Op.move (Go.Operand.tmp 14), type := 3, pos := "law.go:125", after := #[{ on := 2, ground := Go.Ground.guard }], guard := some (2, false) }) (v := ?_) rfl (by kernel_rfl) (by kernel_rfl) (by kernel_rfl) (by decide) (by decide) (by kernel_rfl) (by kernel_rfl) (fun _ _ _ h => h) (Or.inl ⟨by rfl, ?_⟩) HH0 inv (fun inv => ?_)
        rotate_left
        · intro w hSw
          try dsimp only at hSw
          go_simp
          try with_reducible rfl
        simp only [Act.put, List.setIfInBounds_toArray, List.set_cons_zero, List.set_cons_succ]
        refine anyT_take (i := 5) (oi := { dst := some 57, op := Go.Op.indexAddr 70 (Go.Operand.tmp 55) (Go.Operand.tmp 56), type := 0, pos := "law.go:125", after := #[{ on := 3, ground := Go.Ground.data }, { on := 4, ground := Go.Ground.data }, { on := 2, ground := Go.Ground.guard }], guard := some (2, false) }) (v := ?_) rfl (by kernel_rfl) (by kernel_rfl) (by kernel_rfl) (by decide) (by decide) (by kernel_rfl) (by kernel_rfl) (fun _ _ _ h => h) (Or.inl ⟨by rfl, ?_⟩) HH0 inv (fun inv => ?_)
        rotate_left
        · intro w hSw
          try dsimp only at hSw
          go_simp
          try with_reducible rfl
        simp only [Act.put, List.setIfInBounds_toArray, List.set_cons_zero, List.set_cons_succ]
        refine anyT_take (i := 6) (oi := { dst := some 58, op := Go.Op.fieldAddr 61 (Go.Operand.tmp 57) 0, type := 0, pos := "law.go:125", after := #[{ on := 5, ground := Go.Ground.data }, { on := 2, ground := Go.Ground.guard }], guard := some (2, false) }) (v := ?_) rfl (by kernel_rfl) (by kernel_rfl) (by kernel_rfl) (by decide) (by decide) (by kernel_rfl) (by kernel_rfl) (fun _ _ _ h => h) (Or.inl ⟨by rfl, ?_⟩) HH0 inv (fun inv => ?_)
        rotate_left
        · intro w hSw
          try dsimp only at hSw
          go_simp
          try with_reducible rfl
        simp only [Act.put, List.setIfInBounds_toArray, List.set_cons_zero, List.set_cons_succ]
        refine anyT_take (i := 7) (oi := { dst := some 59, op := Go.Op.load 54 (Go.Operand.tmp 58), type := 54, pos := "law.go:125", after := #[{ on := 6, ground := Go.Ground.data }, { on := 2, ground := Go.Ground.guard }], guard := some (2, false) }) (v := ?_) rfl (by kernel_rfl) (by kernel_rfl) (by kernel_rfl) (by decide) (by decide) (by kernel_rfl) (by kernel_rfl) (fun _ _ _ h => h) (Or.inl ⟨by rfl, ?_⟩) HH0 inv (fun inv => ?_)
        rotate_left
        · intro w hSw
          try dsimp only at hSw
          go_simp
          try with_reducible rfl
        simp only [Act.put, List.setIfInBounds_toArray, List.set_cons_zero, List.set_cons_succ]
        refine anyT_take (i := 8) (oi := { dst := some 60, op := Go.Op.move (Go.Operand.tmp 15), type := 3, pos := "law.go:125", after := #[{ on := 2, ground := Go.Ground.guard }], guard := some (2, false) }) (v := ?_) rfl (by kernel_rfl) (by kernel_rfl) (by kernel_rfl) (by decide) (by decide) (by kernel_rfl) (by kernel_rfl) (fun _ _ _ h => h) (Or.inl ⟨by rfl, ?_⟩) HH0 inv (fun inv => ?_)
        rotate_left
        · intro w hSw
          try dsimp only at hSw
          go_simp
          try with_reducible rfl
        simp only [Act.put, List.setIfInBounds_toArray, List.set_cons_zero, List.set_cons_succ]
        obtain ⟨w7, e7⟩ : ∃ w7, we.alloc (.cells #[.int .i64 n] 3) = w7 := ⟨_, rfl⟩
        have hb7 : Below we.heap.size we w7 := by rw [← e7]; exact (Below.refl _ _).alloc (Nat.le_refl _) _
        have n7 : w7.heap[we.heap.size]? = some (.cells #[.int .i64 n] 3 (0, 0)) := by rw [← e7]; exact new_block _ _
        have KO := B1.Of_some we.heap.size 0 1 [n] w7 (by simp) (fun i hi => by
          have : i = 0 := by simpa using hi
          subst this
          exact Lib.cell_of_heap n7 0)
        rw [show B1.ofN [n] = B1.bitN n by unfold B1.ofN; simp] at KO
        have KO := hid KO
        have HB7 := hid (HBE.out.trans (hb7.mono hleE))
        have HB7F := hid (HBF.out.trans (hb7.mono HBF.out.size))
        have HH1 := HS.out w7 HB7.out
        clear hb7 n7
        refine anyT_next (i := 9) (o := { dst := some 61, op := Go.Op.buildSlice 87 1 #[(0, Go.Operand.tmp 60)], type := 87, pos := "law.go:125", after := #[{ on := 8, ground := Go.Ground.data }, { on := 2, ground := Go.Ground.guard }], guard := some (2, false) }) (by kernel_rfl) rfl (by decide) inv (fun inv K' hK => ?_)
        go_simp
        refine hK.out _ _ HH1 ?_
        clear hK K' HH0 e7
        try simp only [Act.put, List.setIfInBounds_toArray, List.set_cons_zero, List.set_cons_succ]
        refine anyT_next (i := 10) (o := { dst := some 62, op := Go.Op.call { callee := Go.Callee.value (Go.Operand.func 41), args := #[Go.Operand.tmp 61], argTypes := #[87] }, type := 54, pos := "law.go:125", after := #[{ on := 9, ground := Go.Ground.data }, { on := 2, ground := Go.Ground.chain }, { on := 2, ground := Go.Ground.guard }], guard := some (2, false) }) (by kernel_rfl) rfl (by decide) inv (fun inv K' hK => ?_)
        go_simp
        refine KO.out.mono ?_
        rintro e w' ⟨rfl, rfl⟩
        refine hK.out _ _ HH1 ?_
        clear hK K' KO
        try simp only [Act.put, List.setIfInBounds_toArray, List.set_cons_zero, List.set_cons_succ]
        refine anyT_take (i := 11) (oi := { dst := some 63, op := Go.Op.binOp Go.BinOp.neq 54 (Go.Operand.tmp 59) (Go.Operand.tmp 62) 54, type := 4, pos := "law.go:125", after := #[{ on := 7, ground := Go.Ground.data }, { on := 10, ground := Go.Ground.data }, { on := 2, ground := Go.Ground.guard }], guard := some (2, false) }) (v := ?_) rfl (by kernel_rfl) (by kernel_rfl) (by kernel_rfl) (by decide) (by decide) (by kernel_rfl) (by kernel_rfl) (fun _ _ _ h => h) (Or.inl ⟨by rfl, ?_⟩) HH1 inv (fun inv => ?_)
        rotate_left
        · intro w hSw
          try dsimp only at hSw
          go_simp
          try with_reducible rfl
        simp only [Act.put, List.setIfInBounds_toArray, List.set_cons_zero, List.set_cons_succ]
        refine anyT_take (i := 12) (oi := { dst := some 64, op := Go.Op.pick (Go.Operand.tmp 54) (Go.Operand.const (Go.Value.bool true)) (Go.Operand.tmp 63), type := 4, pos := "law.go:125", after := #[{ on := 2, ground := Go.Ground.data }, { on := 11, ground := Go.Ground.data }], guard := none }) (v := ?_) rfl (by kernel_rfl) (by kernel_rfl) (by kernel_rfl) (by decide) (by decide) (by kernel_rfl) (by kernel_rfl) (fun _ _ _ h => h) (Or.inl ⟨by rfl, ?_⟩) HH1 inv (fun inv => ?_)
        rotate_left
        · intro w hSw
          try dsimp only at hSw
          go_simp
          try with_reducible rfl
        simp only [Act.put, List.setIfInBounds_toArray, List.set_cons_zero, List.set_cons_succ]
        refine anyT_take (i := 13) (oi := { dst := some 65, op := Go.Op.move (Go.Operand.tmp 64), type := 4, pos := "law.go:125", after := #[{ on := 12, ground := Go.Ground.data }, { on := 10, ground := Go.Ground.chain }], guard := none }) (v := ?_) rfl (by kernel_rfl) (by kernel_rfl) (by kernel_rfl) (by decide) (by decide) (by kernel_rfl) (by kernel_rfl) (fun _ _ _ h => h) (Or.inl ⟨by rfl, ?_⟩) HH1 inv (fun inv => ?_)
        rotate_left
        · intro w hSw
          try dsimp only at hSw
          go_simp
          try with_reducible rfl
        simp only [Act.put, List.setIfInBounds_toArray, List.set_cons_zero, List.set_cons_succ]
        refine anyT_take (i := 14) (oi := { dst := some 66, op := Go.Op.move (Go.Operand.tmp 11), type := 70, pos := "law.go:125", after := #[{ on := 13, ground := Go.Ground.guard }], guard := some (13, false) }) (v := ?_) rfl (by kernel_rfl) (by kernel_rfl) (by kernel_rfl) (by decide) (by decide) (by kernel_rfl) (by kernel_rfl) (fun _ _ _ h => h) (Or.inl ⟨by rfl, ?_⟩) HH1 inv (fun inv => ?_)
        rotate_left
        · intro w hSw
          try dsimp only at hSw
          go_simp
          try with_reducible rfl
        simp only [Act.put, List.setIfInBounds_toArray, List.set_cons_zero, List.set_cons_succ]
        refine anyT_take (i := 15) (oi := { dst := some 67, op := Go.Op.move (Go.Operand.tmp 14), type := 3, pos := "law.go:125", after := #[{ on := 13, ground := Go.Ground.guard }], guard := some (13, false) }) (v := ?_) rfl (by kernel_rfl) (by kernel_rfl) (by kernel_rfl) (by decide) (by decide) (by kernel_rfl) (by kernel_rfl) (fun _ _ _ h => h) (Or.inl ⟨by rfl, ?_⟩) HH1 inv (fun inv => ?_)
        rotate_left
        · intro w hSw
          try dsimp only at hSw
          go_simp
          try with_reducible rfl
        simp only [Act.put, List.setIfInBounds_toArray, List.set_cons_zero, List.set_cons_succ]
        refine anyT_take (i := 16) (oi := { dst := some 68, op := Go.Op.indexAddr 70 (Go.Operand.tmp 66) (Go.Operand.tmp 67), type := 0, pos := "law.go:125", after := #[{ on := 14, ground := Go.Ground.data }, { on := 15, ground := Go.Ground.data }, { on := 13, ground := Go.Ground.guard }], guard := some (13, false) }) (v := ?_) rfl (by kernel_rfl) (by kernel_rfl) (by kernel_rfl) (by decide) (by decide) (by kernel_rfl) (by kernel_rfl) (fun _ _ _ h => h) (Or.inl ⟨by rfl, ?_⟩) HH1 inv (fun inv => ?_)
        rotate_left
        · intro w hSw
          try dsimp only at hSw
          go_simp
          try with_reducible rfl
        simp only [Act.put, List.setIfInBounds_toArray, List.set_cons_zero, List.set_cons_succ]
        refine anyT_take (i := 17) (oi := { dst := some 69, op := Go.Op.fieldAddr 61 (Go.Operand.tmp 68) 1, type := 0, pos := "law.go:125", after := #[{ on := 16, ground := Go.Ground.data }, { on := 13, ground := Go.Ground.guard }], guard := some (13, false) }) (v := ?_) rfl (by kernel_rfl) (by kernel_rfl) (by kernel_rfl) (by decide) (by decide) (by kernel_rfl) (by kernel_rfl) (fun _ _ _ h => h) (Or.inl ⟨by rfl, ?_⟩) HH1 inv (fun inv => ?_)
        rotate_left
        · intro w hSw
          try dsimp only at hSw
          go_simp
          try with_reducible rfl
        simp only [Act.put, List.setIfInBounds_toArray, List.set_cons_zero, List.set_cons_succ]
        refine anyT_take (i := 18) (oi := { dst := some 70, op := Go.Op.load 3 (Go.Operand.tmp 69), type := 3, pos := "law.go:125", after := #[{ on := 17, ground := Go.Ground.data }, { on := 13, ground := Go.Ground.guard }], guard := some (13, false) }) (v := ?_) rfl (by kernel_rfl) (by kernel_rfl) (by kernel_rfl) (by decide) (by decide) (by kernel_rfl) (by kernel_rfl) (fun _ _ _ h => h) (Or.inl ⟨by rfl, ?_⟩) HH1 inv (fun inv => ?_)
        rotate_left
        · intro w hSw
          try dsimp only at hSw
          go_simp
          try with_reducible rfl
        simp only [Act.put, List.setIfInBounds_toArray, List.set_cons_zero, List.set_cons_succ]
        refine anyT_take (i := 19) (oi := { dst := some 71, op := Go.Op.move (Go.Operand.tmp 16), type := 3, pos := "law.go:125", after := #[{ on := 13, ground := Go.Ground.guard }], guard := some (13, false) }) (v := ?_) rfl (by kernel_rfl) (by kernel_rfl) (by kernel_rfl) (by decide) (by decide) (by kernel_rfl) (by kernel_rfl) (fun _ _ _ h => h) (Or.inl ⟨by rfl, ?_⟩) HH1 inv (fun inv => ?_)
        rotate_left
        · intro w hSw
          try dsimp only at hSw
          go_simp
          try with_reducible rfl
        simp only [Act.put, List.setIfInBounds_toArray, List.set_cons_zero, List.set_cons_succ]
        refine anyT_take (i := 20) (oi := { dst := some 72, op := Go.Op.binOp Go.BinOp.neq 3 (Go.Operand.tmp 70) (Go.Operand.tmp 71) 3, type := 4, pos := "law.go:125", after := #[{ on := 18, ground := Go.Ground.data }, { on := 19, ground := Go.Ground.data }, { on := 13, ground := Go.Ground.guard }], guard := some (13, false) }) (v := ?_) rfl (by kernel_rfl) (by kernel_rfl) (by kernel_rfl) (by decide) (by decide) (by kernel_rfl) (by kernel_rfl) (fun _ _ _ h => h) (Or.inl ⟨by rfl, ?_⟩) HH1 inv (fun inv => ?_)
        rotate_left
        · intro w hSw
          try dsimp only at hSw
          go_simp
          try with_reducible rfl
        simp only [Act.put, List.setIfInBounds_toArray, List.set_cons_zero, List.set_cons_succ]
        refine anyT_take (i := 21) (oi := { dst := some 73, op := Go.Op.pick (Go.Operand.tmp 65) (Go.Operand.const (Go.Value.bool true)) (Go.Operand.tmp 72), type := 4, pos := "law.go:125", after := #[{ on := 13, ground := Go.Ground.data }, { on := 20, ground := Go.Ground.data }], guard := none }) (v := ?_) rfl (by kernel_rfl) (by kernel_rfl) (by kernel_rfl) (by decide) (by decide) (by kernel_rfl) (by kernel_rfl) (fun _ _ _ h => h) (Or.inl ⟨by rfl, ?_⟩) HH1 inv (fun inv => ?_)
        rotate_left
        · intro w hSw
          try dsimp only at hSw
          go_simp
          try with_reducible rfl
        simp only [Act.put, List.setIfInBounds_toArray, List.set_cons_zero, List.set_cons_succ]
        refine anyT_take (i := 22) (oi := { dst := some 74, op := Go.Op.move (Go.Operand.tmp 73), type := 4, pos := "law.go:125", after := #[{ on := 21, ground := Go.Ground.data }, { on := 13, ground := Go.Ground.chain }], guard := none }) (v := ?_) rfl (by kernel_rfl) (by kernel_rfl) (by kernel_rfl) (by decide) (by decide) (by kernel_rfl) (by kernel_rfl) (fun _ _ _ h => h) (Or.inl ⟨by rfl, ?_⟩) HH1 inv (fun inv => ?_)
        rotate_left
        · intro w hSw
          try dsimp only at hSw
          go_simp
          try with_reducible rfl
        simp only [Act.put, List.setIfInBounds_toArray, List.set_cons_zero, List.set_cons_succ]
        refine anyT_take (i := 23) (oi := { dst := some 75, op := Go.Op.move (Go.Operand.tmp 16), type := 3, pos := "law.go:125", after := #[{ on := 22, ground := Go.Ground.guard }], guard := some (22, false) }) (v := ?_) rfl (by kernel_rfl) (by kernel_rfl) (by kernel_rfl) (by decide) (by decide) (by kernel_rfl) (by kernel_rfl) (fun _ _ _ h => h) (Or.inl ⟨by rfl, ?_⟩) HH1 inv (fun inv => ?_)
        rotate_left
        · intro w hSw
          try dsimp only at hSw
          go_simp
          try with_reducible rfl
        simp only [Act.put, List.setIfInBounds_toArray, List.set_cons_zero, List.set_cons_succ]
        refine anyT_take (i := 24) (oi := { dst := some 76, op := Go.Op.move (Go.Operand.tmp 13), type := 3, pos := "law.go:125", after := #[{ on := 22, ground := Go.Ground.guard }], guard := some (22, false) }) (v := ?_) rfl (by kernel_rfl) (by kernel_rfl) (by kernel_rfl) (by decide) (by decide) (by kernel_rfl) (by kernel_rfl) (fun _ _ _ h => h) (Or.inl ⟨by rfl, ?_⟩) HH1 inv (fun inv => ?_)
        rotate_left
        · intro w hSw
          try dsimp only at hSw
          go_simp
          try with_reducible rfl
        simp only [Act.put, List.setIfInBounds_toArray, List.set_cons_zero, List.set_cons_succ]
        refine anyT_take (i := 25) (oi := { dst := some 77, op := Go.Op.binOp Go.BinOp.leq 3 (Go.Operand.tmp 75) (Go.Operand.tmp 76) 3, type := 4, pos := "law.go:125", after := #[{ on := 23, ground := Go.Ground.data }, { on := 24, ground := Go.Ground.data }, { on := 22, ground := Go.Ground.guard }], guard := some (22, false) }) (v := ?_) rfl (by kernel_rfl) (by kernel_rfl) (by kernel_rfl) (by decide) (by decide) (by kernel_rfl) (by kernel_rfl) (fun _ _ _ h => h) (Or.inl ⟨by rfl, ?_⟩) HH1 inv (fun inv => ?_)
        rotate_left
        · intro w hSw
          try dsimp only at hSw
          go_simp
          try with_reducible rfl
        simp only [Act.put, List.setIfInBounds_toArray, List.set_cons_zero, List.set_cons_succ]
        refine anyT_one (i := 26) (o := { dst := some 78, op := Go.Op.pick (Go.Operand.tmp 74) (Go.Operand.const (Go.Value.bool true)) (Go.Operand.tmp 77), type := 4, pos := "law.go:125", after := #[{ on := 22, ground := Go.Ground.data }, { on := 25, ground := Go.Ground.data }], guard := none }) (by kernel_rfl) rfl (fun K' hK => ?_)
        go_simp
        refine hK.out _ _ (fun h => absurd h (by decide)) ?_
        clear hK K' inv
        try simp only [Act.put, List.setIfInBounds_toArray, List.set_cons_zero, List.set_cons_succ]
        refine anyT_done (by kernel_rfl) ?_ _
        go_wp2_with fail
        refine ⟨⟨k + 1, z2, by omega, rfl, rfl, by omega, by omega, HC2, HB7⟩, ?_⟩
        show L.length - ((k : Int) + 1).toNat < L.length - ((k : Int)).toNat
        omega
      · have h1 : ¬ (k : Int) < (L.length : Int) := by omega
        have hC := HC.out
        rw [List.drop_eq_nil_of_le (by omega)] at hC
        obtain ⟨hn1, hz⟩ := hC
        subst hz
        rw [hn1] at K
        have hend : ed ≤ (s.size : Int) := HCU.out.2
        go_wp2_with fail
        refine wp_load30' (.tmp 4) rfl w.heap.size rfl d0 HXr.out HD.out.1 ?_
        go_wp2_with fail
        refine K.out.mono ?_
        rintro e w5 ⟨rfl, hb⟩
        clear K
        have HBr5 := hid (HBr.out.trans (hb.mono HBr.out.size))
        clear hb
        go_wp2_with fail
        go_ret
        exact ⟨rfl, HBr5.out⟩
end Go.Proofs.YtochckefnjobhaaGreatDoor
