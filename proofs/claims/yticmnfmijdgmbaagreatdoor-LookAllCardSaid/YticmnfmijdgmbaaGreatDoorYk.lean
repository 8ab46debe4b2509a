/- Are rows what the document has? -/
import Derived.Test.YticmnfmijdgmbaaGreatDoorGb
import Derived.Test.YticmnfmijdgmbaaGreatDoorQKq
import Derived.Test.YticmnfmijdgmbaaGreatDoorSp
import Derived.Test.YticmnfmijdgmbaaGreatDoorRd
import Derived.Test.YticmnfmijdgmbaaGreatDoorXs
import Derived.Test.YticmnfmijdgmbaaGreatDoorRg
namespace Go.Proofs.YticmnfmijdgmbaaGreatDoor
open Go Go.RowKit Go.Lib
open X14 (It)
open S13 (u64 top)
open S13.X15 (Pl)
set_option linter.unusedVariables false
set_option linter.unusedSimpArgs false
def IntR (w : World) (v : Value) (l : List Int) : Prop := RowAt v l.length (fun i b off => w.cell? ⟨b, off + i, none⟩ = some (.int .i64 (l.getD i 0)))
theorem IntR.below {w w' : World} {v : Value} {l : List Int} (h : IntR w v l) (hb : Below w.heap.size w w') : IntR w' v l := RowAt.mono h fun _ _ _ h => cell_below hb h
theorem IntR.of_own {w : World} {B n : Nat} {v : Value} {l : List Int} (h : ownsT w B 1 v n (l.map fun p => .int .i64 p)) (hn : n = l.length) : IntR w v l := by
 subst hn
 obtain ⟨hl, ⟨rfl, h0⟩ | ⟨g, off, cap, rfl, _, _, h1, h2, h3, _⟩⟩ := h
 ·exact ⟨none, 0, by rw [h0], by omega, fun h => absurd h (by omega)⟩
 ·refine ⟨_, _, rfl, by unfold maxLen at h2; omega, fun _ => ⟨g, off, rfl, fun i hi => h3 i _ ?_⟩⟩
  rw [List.getElem?_map, List.getElem?_eq_getElem hi, List.getD_eq_getElem?_getD, List.getElem?_eq_getElem hi]
  rfl
set_option maxRecDepth 100000 in
set_option maxHeartbeats 8000000 in
theorem ints_same {w : World} {v v' : Value} {l : List Int} (h : IntR w v l) (h' : IntR w v' l) (hl : l.length ≤ 100000) : Calls Tryz.prog 20 #[v, v'] w fun e w' => e = .returned (.bool true) ∧ Below w.heap.size w w' := by
 obtain ⟨a, c, rfl, _, hx⟩ := h
 obtain ⟨a', c', rfl, _, hx'⟩ := h'
 obtain ⟨N, hN⟩ : ∃ N, l.length = N := ⟨_, rfl⟩
 have HN := hid hN
 have HX := hid hx
 have HX' := hid hx'
 rw [hN] at hl ⊢
 clear hx hx' hN
 go_enter Tryz.func20, Tryz.ntmps20
 go_wp2_with fail
 go_loopw [5] (fun t5 wr => ∃ k : Nat, k ≤ N ∧ t5 = .int .i64 (k : Int) ∧ Hid (Below w.heap.size w wr)) (fun t5 _ => N - (RowKit.intOf t5).toNat)
 case atStart => exact ⟨0, Nat.zero_le _, rfl, hid (Below.refl _ _)⟩
 case round =>
  obtain ⟨k, hkN, rfl, HR⟩ := hrel
  by_cases hlt : k < N
  ·have j1 : (k : Int) < (N : Int) := by omega
   have j0 : (0 : Int) ≤ (k : Int) := by omega
   obtain ⟨b, off, rfl, hc⟩ := HX.out (by rw [HN.out]; omega)
   obtain ⟨b', off', rfl, hc'⟩ := HX'.out (by rw [HN.out]; omega)
   have h1 := hc k (by rw [HN.out]; exact hlt)
   have h2 := hc' k (by rw [HN.out]; exact hlt)
   obtain ⟨z, hz⟩ : ∃ z, l.getD k 0 = z := ⟨_, rfl⟩
   rw [hz] at h1 h2
   have Z0 := hid (show ∀ w', Below wr.heap.size wr w' → w'.cell? ⟨b, off + k, none⟩ = some (.int .i64 z) from fun w' hC => cell_below hC (cell_below HR.out h1))
   have Z1 := hid (show ∀ w', Below wr.heap.size wr w' → w'.cell? ⟨b', off' + k, none⟩ = some (.int .i64 z) from fun w' hC => cell_below hC (cell_below HR.out h2))
   clear hc hc' h1 h2 hz
   go_wp2_with fail
   refine wp_region_below (by kernel_rfl) (by kernel_rfl) ?_
   iterate 9
    with_reducible refine BigFrame.wpQuiet_want (by kernel_rfl) (fun K hK => ?_)
    apply Exists.intro
    refine ⟨fun w' hC => ?_, hK _ ?_⟩
    ·have f0' := Z0.out w' hC
     have f1' := Z1.out w' hC
     unfold Oper.quietAt
     go_simp
     first | with_reducible rfl | done
    clear hK K
    try simp only [Act.put, sjA, sj0, sjS]
   refine wpQuiet_nil ?_
   intro w9 hb9
   have HF9 := hid (HR.out.trans (hb9.mono HR.out.size))
   clear hb9
   go_wp2_with fail
   refine ⟨⟨k + 1, by omega, by go_num, HF9⟩, ?_⟩
   simp [RowKit.intOf]
   omega
  ·have j1 : ¬ (k : Int) < (N : Int) := by omega
   go_wp2_with fail
   go_ret
   exact ⟨rfl, HR.out⟩
set_option maxRecDepth 100000 in
set_option maxHeartbeats 8000000 in
theorem same_look {w : World} {v v' : Value} {n : Nat} {C : Nat → List It} {A : Pl → Nat} (h : LookAt w v n C A) (h' : LookAt w v' n C A) (hC : ∀ i, (C i).length ≤ 1573) (hn : n ≤ 2000) : Calls Tryz.prog 19 #[v, v'] w fun e w' => e = .returned (.bool true) ∧ Below w.heap.size w w' := by
 have HL := hid h
 have HL' := hid h'
 obtain ⟨a, c, rfl, _, _⟩ := h
 obtain ⟨a', c', rfl, _, _⟩ := h'
 have HCL := hid hC
 clear hC
 go_enter Tryz.func19, Tryz.ntmps19
 go_wp2_with fail
 go_loopw [5, 6] (fun t5 t6 wr => ∃ i : Nat, i ≤ n ∧ t5 = .int .i64 (i : Int) ∧ Hid (Below w.heap.size w wr)) (fun t5 _ _ => n - (RowKit.intOf t5).toNat)
 case atStart => exact ⟨0, Nat.zero_le _, rfl, hid (Below.refl _ _)⟩
 case round =>
  obtain ⟨i, hin, rfl, HR⟩ := hrel
  by_cases hli : i < n
  ·have m1 : (i : Int) < (n : Int) := by omega
   have m0 : (0 : Int) ≤ (i : Int) := by omega
   obtain ⟨lb, lf, lc, e1, hk⟩ := look_r HL.out (by omega)
   obtain ⟨lb', lf', lc', e2, hk'⟩ := look_r HL'.out (by omega)
   injection e1 with e1 _ e3
   injection e2 with e2 _ e4
   subst e1 e2 e3 e4
   obtain ⟨io, ic, ao, ac, q0, q1, qi, qa, hq⟩ := hk i hli
   obtain ⟨io', ic', ao', ac', q0', q1', qi', qa', hq'⟩ := hk' i hli
   obtain ⟨L, hL⟩ : ∃ L, C i = L := ⟨_, rfl⟩
   have HLL := hid hL
   obtain ⟨N, hN⟩ : ∃ N, (C i).length = N := ⟨_, rfl⟩
   have HN := hid hN
   have hNle : N ≤ 1573 := by rw [← hN]; exact HCL.out i
   rw [hN] at q0 q1 q0' q1' qi qi'
   have HQ := hid (And.intro q0 (And.intro q1 (And.intro q0' q1')))
   have HQI := hid (And.intro qi qi')
   have HQX := hid hq
   have HQX' := hid hq'
   obtain ⟨wd, ewd⟩ : ∃ wd, wr.drew = wd := ⟨_, rfl⟩
   have hbd : Below wr.heap.size wr wd := by rw [← ewd]; exact (Below.refl _ _).drew
   have HRd := hid (HR.out.trans (hbd.mono HR.out.size))
   have HS := hid (show ∀ w', Below wd.heap.size wd w' → w'.cell? ⟨lb, lf + i * 2, none⟩ = some (.slice io N ic) ∧ w'.cell? ⟨lb, lf + i * 2 + 1, none⟩ = some (.slice ao N ac) ∧ w'.cell? ⟨lb', lf' + i * 2, none⟩ = some (.slice io' N ic') ∧ w'.cell? ⟨lb', lf' + i * 2 + 1, none⟩ = some (.slice ao' N ac') from fun w' hC => by
    have hb := HRd.out.trans (hC.mono HRd.out.size)
    exact ⟨cell_below hb HQ.out.1, cell_below hb HQ.out.2.1, cell_below hb HQ.out.2.2.1, cell_below hb HQ.out.2.2.2⟩)
   have HH0 := HS.out wd (Below.refl _ _)
   clear hk hk' q0 q1 q0' q1' qi qi' qa qa' hq hq' hbd hL hN
   go_wp2_with fail
   refine region_T 27 (fun w' => w'.cell? ⟨lb, lf + i * 2, none⟩ = some (.slice io N ic) ∧ w'.cell? ⟨lb, lf + i * 2 + 1, none⟩ = some (.slice ao N ac) ∧ w'.cell? ⟨lb', lf' + i * 2, none⟩ = some (.slice io' N ic') ∧ w'.cell? ⟨lb', lf' + i * 2 + 1, none⟩ = some (.slice ao' N ac')) (by kernel_rfl) (by rw [ewd]; exact HH0) (fun inv hHeld => ?_)
   rw [ewd]
   clear hHeld ewd
   iterate 10
    refine anyT_auto (v := ?_) rfl (by kernel_rfl) (fun _ _ _ h => h) (Or.inl ⟨by rfl, ?_⟩) HH0 inv (fun inv => ?_)
    rotate_left
    ·intro w hSw
     try dsimp only at hSw
     go_simp
     try with_reducible rfl
    simp only [Act.put, sjA, sj0, sjS]
   refine anyT_next (i := 5) (o := { dst := some 23, op := Go.Op.call { callee := Go.Callee.value (Go.Operand.func 52), args := #[Go.Operand.tmp 22], argTypes := #[45] }, type := 50, pos := "law.go:34", after := #[{ on := 4, ground := Go.Ground.data }], guard := none }) (by kernel_rfl) rfl (by decide) inv (fun inv K' hK => ?_)
   go_simp
   refine (LRow_any (HQI.out.1.below HRd.out) (by rw [HN.out]; omega)).mono ?_
   rintro e w7 ⟨ev, rfl, hev, hb7⟩
   have HB7 := hid hb7
   have HEV := hid (own_items hev (by rw [HN.out]; omega))
   obtain ⟨eo, ec, rfl⟩ := own_shape hev
   have HH1 := HS.out w7 hb7
   refine hK.out _ _ HH1 ?_
   clear hK K' HH0
   try simp only [Act.put, sjA, sj0, sjS]
   refine anyT_next (i := 11) (o := { dst := some 29, op := Go.Op.call { callee := Go.Callee.value (Go.Operand.func 51), args := #[Go.Operand.tmp 23, Go.Operand.tmp 28], argTypes := #[50, 50] }, type := 4, pos := "law.go:34", after := #[{ on := 5, ground := Go.Ground.data }, { on := 10, ground := Go.Ground.data }, { on := 5, ground := Go.Ground.chain }], guard := none }) (by kernel_rfl) rfl (by decide) inv (fun inv K' hK => ?_)
   go_simp
   refine (RRow_any HEV.out (HQI.out.2.below (HRd.out.trans (HB7.out.mono HRd.out.size)))).mono ?_
   rintro e w8 ⟨e9, hb8⟩
   obtain rfl : e = .returned (.bool true) := by simpa using e9
   have HB8 := hid (HB7.out.trans (hb8.mono HB7.out.size))
   have HH2 := HS.out w8 HB8.out
   refine hK.out _ _ HH2 ?_
   clear hK K' HH1
   try simp only [Act.put, sjA, sj0, sjS]
   iterate 15
    refine anyT_auto (v := ?_) rfl (by kernel_rfl) (fun _ _ _ h => h) (Or.inl ⟨by rfl, ?_⟩) HH2 inv (fun inv => ?_)
    rotate_left
    ·intro w hSw
     try dsimp only at hSw
     go_simp
     try with_reducible rfl
    simp only [Act.put, sjA, sj0, sjS]
   refine anyT_one (i := 27) (o := { dst := some 45, op := Go.Op.pick (Go.Operand.tmp 31) (Go.Operand.const (Go.Value.bool true)) (Go.Operand.tmp 44), type := 4, pos := "law.go:34", after := #[{ on := 13, ground := Go.Ground.data }, { on := 26, ground := Go.Ground.data }], guard := none }) (by kernel_rfl) rfl (fun K' hK => ?_)
   go_simp
   refine hK.out _ _ (fun h => absurd h (by decide)) ?_
   clear hK K'
   try simp only [Act.put, sjA, sj0, sjS]
   refine anyT_done (by kernel_rfl) ?_ _
   have HR8 := hid (HRd.out.trans (HB8.out.mono HRd.out.size))
   clear HS HH2 HRd HB8 HB7 HEV
   go_wp2_with fail
   go_loopw [6] (fun t6 wr => ∃ k : Nat, k ≤ N ∧ t6 = .int .i64 (k : Int) ∧ Hid (Below w.heap.size w wr)) (fun t6 _ => N - (RowKit.intOf t6).toNat)
   case atStart => exact ⟨0, Nat.zero_le _, rfl, HR8⟩
   case round =>
    clear HR8
    obtain ⟨k, hkN, rfl, HR⟩ := hrel
    have q1 := cell_below HR.out HQ.out.2.1
    by_cases hlt : k < N
    ·have j1 : (k : Int) < (N : Int) := by omega
     have j0 : (0 : Int) ≤ (k : Int) := by omega
     obtain ⟨x, hx⟩ : ∃ x, (C i)[k]? = some x := ⟨_, List.getElem?_eq_getElem (by rw [HN.out]; exact hlt)⟩
     obtain ⟨ib, jf, ab, af, rfl, _, _, rfl, x2⟩ := HQX.out k x hx
     obtain ⟨ib', jf', ab', af', rfl, _, _, rfl, x2'⟩ := HQX'.out k x hx
     obtain ⟨z, hz⟩ : ∃ z, A (i, x) = z := ⟨_, rfl⟩
     rw [hz] at x2 x2'
     have Z0 := hid (show ∀ w', Below wr.heap.size wr w' → w'.cell? ⟨lb, lf + i * 2 + 1, none⟩ = some (.slice (some ⟨ab, af, none⟩) N ac) from fun w' hC => cell_below hC (cell_below HR.out HQ.out.2.1))
     have Z1 := hid (show ∀ w', Below wr.heap.size wr w' → w'.cell? ⟨ab, af + k, none⟩ = some (uv z) from fun w' hC => cell_below hC (cell_below HR.out x2))
     have Z2 := hid (show ∀ w', Below wr.heap.size wr w' → w'.cell? ⟨lb', lf' + i * 2 + 1, none⟩ = some (.slice (some ⟨ab', af', none⟩) N ac') from fun w' hC => cell_below hC (cell_below HR.out HQ.out.2.2.2))
     have Z3 := hid (show ∀ w', Below wr.heap.size wr w' → w'.cell? ⟨ab', af' + k, none⟩ = some (uv z) from fun w' hC => cell_below hC (cell_below HR.out x2'))
     clear hx x2 x2' hz
     go_wp2_with fail
     clear q1
     refine wp_region_below (by kernel_rfl) (by kernel_rfl) ?_
     iterate 17
      with_reducible refine BigFrame.wpQuiet_want (by kernel_rfl) (fun K hK => ?_)
      apply Exists.intro
      refine ⟨fun w' hC => ?_, hK _ ?_⟩
      ·have f0' := Z0.out w' hC
       have f1' := Z1.out w' hC
       have f2' := Z2.out w' hC
       have f3' := Z3.out w' hC
       unfold Oper.quietAt
       go_simp
       first | with_reducible rfl | done
      clear hK K
      try simp only [Act.put, sjA, sj0, sjS]
     refine wpQuiet_nil ?_
     intro w9 hb9
     have HF9 := hid (HR.out.trans (hb9.mono HR.out.size))
     clear hb9
     go_wp2_with fail
     refine ⟨⟨k + 1, by omega, by go_num, HF9⟩, ?_⟩
     simp [RowKit.intOf]
     omega
    ·have j1 : ¬ (k : Int) < (N : Int) := by omega
     go_wp2_with fail
     refine ⟨⟨i + 1, by omega, by go_num, HR⟩, ?_⟩
     simp [RowKit.intOf]
     omega
  ·have m1 : ¬ (i : Int) < (n : Int) := by omega
   go_wp2_with fail
   go_ret
   exact ⟨rfl, HR.out⟩
end Go.Proofs.YticmnfmijdgmbaaGreatDoor

/- The document's Done. -/
namespace Go.Proofs.YticmnfmijdgmbaaGreatDoor
open Go Go.RowKit Go.Lib
open X14 (It closeX rightX behX thereX)
open S13 (u64 top)
open S13.X15 (Pl)
set_option linter.unusedVariables false
set_option linter.unusedSimpArgs false
set_option maxRecDepth 100000 in
set_option maxHeartbeats 16000000 in
theorem RDone_any {G : GD} {gv iv av : Value} {w : World} {l : List It} {us : List Nat} (h : Gram w gv G) (hV : validB G = true) (hcl : closeX G l = l) (hi : ItemsAt w iv l) (hl : l.length ≤ 100000) (hu : U64s w av us) (hul : us.length = l.length) :
  Calls Tryz.prog 22 #[gv, .agg #[iv, av]] w (DoneP G l us w) := by
 have HGr := hid h
 have HV := hid hV
 have HCL := hid hcl
 obtain ⟨io, ic, rfl, _, hix⟩ := hi
 obtain ⟨ao, ac, rfl, _, hux⟩ := hu
 rw [hul] at hux ⊢
 obtain ⟨N, hN⟩ : ∃ N, l.length = N := ⟨_, rfl⟩
 have HN := hid hN
 have HUL := hid hul
 have HIX := hid hix
 have HUX := hid hux
 rw [hN] at hl ⊢
 obtain ⟨tv, ov, sv, pv, tf, rv, h⟩ := h
 have hgv := h.eq
 subst hgv
 obtain ⟨W1, e1⟩ : ∃ W1, w.alloc (.cells #[tv, ov, sv, pv, .int .i64 G.start] 27) = W1 := ⟨_, rfl⟩
 have n1 : W1.heap[w.heap.size]? = some (.cells #[tv, ov, sv, pv, .int .i64 G.start] 27 (0, 0)) := by rw [← e1]; exact new_block _ _
 obtain ⟨W2, e2⟩ : ∃ W2, W1.alloc (.cells #[.slice io N ic, .slice ao N ac] 52) = W2 := ⟨_, rfl⟩
 have n2 : W2.heap[W1.heap.size]? = some (.cells #[.slice io N ic, .slice ao N ac] 52 (0, 0)) := by rw [← e2]; exact new_block _ _
 have f1 := foot_add1 (l := []) (Foot.empty w w.heap.size (Nat.le_refl _)) e1 n1
 have f2 := foot_add1 f1 e2 n2
 have f3 := foot_newrow f2
 obtain ⟨b52, hb52⟩ : ∃ b52, W1.heap.size = b52 := ⟨_, rfl⟩
 rw [hb52] at f3
 obtain ⟨v, hv⟩ : ∃ v, v = Value.slice none 0 0 := ⟨_, rfl⟩
 have HF0 : Hid (Foot w.heap.size w W2 [blkI w.heap.size (.cells #[tv, ov, sv, pv, .int .i64 G.start] 27 (0, 0)), blkI b52 (.cells #[.slice io N ic, .slice ao N ac] 52 (0, 0)), queI w.heap.size 1 v (doneN G l us 0).length ((doneN G l us 0).map fun p => .int .i64 p)]) := hid (by
  rw [← hv] at f3
  exact f3)
 clear h hcl hix hux hN hul n1 n2 f1 f2 f3
 go_enter Tryz.func22, Tryz.ntmps22
 go_wp2_with fail
 try rw [hb52]
 clear e1 e2 hb52
 go_loopw [5, 6, 7, 8] (fun t5 t6 t7 t8 wr => ∃ (i : Nat) (v : Value), i ≤ N ∧ t6 = .int .i64 (i : Int) ∧ v = t5 ∧ Hid (Foot w.heap.size w wr [blkI w.heap.size (.cells #[tv, ov, sv, pv, .int .i64 G.start] 27 (0, 0)), blkI b52 (.cells #[.slice io N ic, .slice ao N ac] 52 (0, 0)), queI w.heap.size 1 v (doneN G l us i).length ((doneN G l us i).map fun p => .int .i64 p)])) (fun _ t6 _ _ _ => N - (RowKit.intOf t6).toNat)
 case atStart => exact ⟨0, v, Nat.zero_le _, rfl, hv, HF0⟩
 case round =>
  clear HF0 hv
  obtain ⟨i, v, hiN, rfl, rfl, HF⟩ := hrel
  have hc2 : wr.heap[b52]? = some (.cells #[.slice io N ic, .slice ao N ac] 52 (0, 0)) := HF.out.ok 1 _ rfl
  have q0 : wr.cell? ⟨b52, 0, none⟩ = some (.slice io N ic) := Lib.cell_of_heap hc2 0
  have q1 : wr.cell? ⟨b52, 1, none⟩ = some (.slice ao N ac) := Lib.cell_of_heap hc2 1
  clear hc2
  by_cases hlt : i < N
  ·have j1 : (i : Int) < (N : Int) := by omega
   have j0 : (0 : Int) ≤ (i : Int) := by omega
   obtain ⟨ib, jf, rfl, hx2⟩ := HIX.out (by rw [HN.out]; omega)
   obtain ⟨ab, af, rfl, hu2⟩ := HUX.out (by rw [HN.out]; omega)
   obtain ⟨⟨xp, xd⟩, hx⟩ : ∃ x, l[i]? = some x := ⟨_, List.getElem?_eq_getElem (by rw [HN.out]; exact hlt)⟩
   have hxk : w.cell? ⟨ib, jf + i * 2, none⟩ = some (.int .i64 (l.getD i (0, 0)).1) ∧ w.cell? ⟨ib, jf + i * 2 + 1, none⟩ = some (.int .i64 (l.getD i (0, 0)).2) := hx2 i (by rw [HN.out]; exact hlt)
   have hgd : l.getD i (0, 0) = (xp, xd) := X14.getD_get hx
   rw [hgd] at hxk
   have huk : w.cell? ⟨ab, af + i, none⟩ = some (u64 (us.getD i 0)) := hu2 i (by rw [HN.out]; exact hlt)
   obtain ⟨uk, huk2⟩ : ∃ uk, us.getD i 0 = uk := ⟨_, rfl⟩
   rw [huk2] at huk
   have HGD := hid hgd
   have HUK := hid huk2
   have hmem : (xp, xd) ∈ l := List.mem_of_getElem? hx
   have hth : thereX G (xp, xd) = true := by
    rw [← HCL.out] at hmem
    exact (((X14.closeX_is G l).2 _).1 hmem).there
   have HTH := hid hth
   have HME := hid hmem
   have hc1 : wr.heap[w.heap.size]? = some (.cells #[tv, ov, sv, pv, .int .i64 G.start] 27 (0, 0)) := HF.out.ok 0 _ rfl
   have hbel := HF.out.bel
   have Z0 := hid (show ∀ w', Below wr.heap.size wr w' → w'.cell? ⟨w.heap.size, 0, none⟩ = some tv from fun w' hC => cell_below hC (Lib.cell_of_heap hc1 0))
   have Z1 := hid (show ∀ w', Below wr.heap.size wr w' → w'.cell? ⟨w.heap.size, 1, none⟩ = some ov from fun w' hC => cell_below hC (Lib.cell_of_heap hc1 1))
   have Z2 := hid (show ∀ w', Below wr.heap.size wr w' → w'.cell? ⟨w.heap.size, 2, none⟩ = some sv from fun w' hC => cell_below hC (Lib.cell_of_heap hc1 2))
   have Z3 := hid (show ∀ w', Below wr.heap.size wr w' → w'.cell? ⟨w.heap.size, 3, none⟩ = some pv from fun w' hC => cell_below hC (Lib.cell_of_heap hc1 3))
   have Z4 := hid (show ∀ w', Below wr.heap.size wr w' → w'.cell? ⟨w.heap.size, 4, none⟩ = some (.int .i64 G.start) from fun w' hC => cell_below hC (Lib.cell_of_heap hc1 4))
   have Z5 := hid (show ∀ w', Below wr.heap.size wr w' → w'.cell? ⟨b52, 0, none⟩ = some (.slice (some ⟨ib, jf, none⟩) N ic) from fun w' hC => cell_below hC q0)
   have Z6 := hid (show ∀ w', Below wr.heap.size wr w' → w'.cell? ⟨ib, jf + i * 2, none⟩ = some (.int .i64 xp) from fun w' hC => cell_below hC (cell_below hbel hxk.1))
   have Z7 := hid (show ∀ w', Below wr.heap.size wr w' → w'.cell? ⟨ib, jf + i * 2 + 1, none⟩ = some (.int .i64 xd) from fun w' hC => cell_below hC (cell_below hbel hxk.2))
   have Z8 := hid (show ∀ w', Below wr.heap.size wr w' → w'.cell? ⟨b52, 1, none⟩ = some (.slice (some ⟨ab, af, none⟩) N ac) from fun w' hC => cell_below hC q1)
   have Z9 := hid (show ∀ w', Below wr.heap.size wr w' → w'.cell? ⟨ab, af + i, none⟩ = some (u64 uk) from fun w' hC => cell_below hC (cell_below hbel huk))
   have hbe : behV G (xp, xd) = behX G (xp, xd) := by unfold behV; rw [if_pos HV.out]
   have his : isV G (xp, xd) = true := X14.isV_iff.2 ⟨HV.out, hth⟩
   have KH := hid (show ∀ w', Below wr.heap.size wr w' → Calls Tryz.prog 56 #[.agg #[tv, ov, sv, pv, .int .i64 G.start], .agg #[.int .i64 xp, .int .i64 xd]] w' fun e w'' => e = .returned (.tuple #[.int .i64 ((behX G (xp, xd)).getD 0), .bool (behX G (xp, xd)).isSome]) ∧ Below w'.heap.size w' w'' from fun w' hC => by
    have := RBehind_any (HGr.out.below (HF.out.bel.trans (hC.mono (by have := HF.out.bel.size; exact this)))) (xp, xd)
    unfold BehVP at this
    rw [hbe] at this
    exact this)
   have KI := hid (show ∀ w', Below wr.heap.size wr w' → Calls Tryz.prog 57 #[.agg #[tv, ov, sv, pv, .int .i64 G.start], .agg #[.int .i64 xp, .int .i64 xd]] w' fun e w'' => e = .returned (.bool true) ∧ Below w'.heap.size w' w'' from fun w' hC => by
    have := RIs_any (HGr.out.below (HF.out.bel.trans (hC.mono (by have := HF.out.bel.size; exact this)))) (xp, xd)
    rw [his] at this
    exact this)
   have HBE := hid (show (behX G (xp, xd) = none ↔ xd = ((rightX G xp).length : Int)) from by
    obtain ⟨_, _, t3, t4⟩ := X14.there_iff.1 hth
    have t3 : (0 : Int) ≤ xd := t3
    have t4 : xd ≤ ((rightX G xp).length : Int) := t4
    unfold X14.behX
    rw [if_pos hth, List.getElem?_eq_none_iff]
    show (rightX G xp).length ≤ xd.toNat ↔ _
    omega)
   have HLEN := hid (show (doneN G l us i).length ≤ i from doneN_len G l us i)
   clear hx2 hu2 hxk huk hgd hmem hth hc1 hbe his hx huk2 hbel
   go_wp2_with fail
   clear q0 q1
   cases hbx : behX G (xp, xd) with
   | some s =>
    rw [hbx] at KH
    simp only [Option.getD_some, Option.isSome_some] at KH
    refine wp_region_below (by kernel_rfl) (by kernel_rfl) ?_
    iterate 12
     with_reducible refine BigFrame.wpQuiet_want (by kernel_rfl) (fun K hK => ?_)
     apply Exists.intro
     refine ⟨fun w' hC => ?_, hK _ ?_⟩
     ·have f0' := Z0.out w' hC
      have f1' := Z1.out w' hC
      have f2' := Z2.out w' hC
      have f3' := Z3.out w' hC
      have f4' := Z4.out w' hC
      have f5' := Z5.out w' hC
      have f6' := Z6.out w' hC
      have f7' := Z7.out w' hC
      unfold Oper.quietAt
      go_simp
      first | with_reducible rfl | with_reducible exact below_call hC (Nat.le_refl _) (KH.out w' hC)
     clear hK K
     try simp only [Act.put, sjA, sj0, sjS]
    refine wpQuiet_nil ?_
    intro w6 hb6
    have HF6 := hid (HF.out.below hb6)
    have Y0 := hid (show ∀ w', Below w6.heap.size w6 w' → True from fun w' hC => trivial)
    clear hb6
    go_wp2_with fail
    refine wp_region_below (by kernel_rfl) (by kernel_rfl) ?_
    iterate 19
     first
     | with_reducible refine BigFrame.wpQuiet_skip (by with_unfolding_all rfl) ?_
     | with_reducible refine BigFrame.wpQuiet_want (by kernel_rfl) (fun K hK => ?_)
       apply Exists.intro
       refine ⟨fun w' hC => ?_, hK _ ?_⟩
       ·unfold Oper.quietAt
        go_simp
        first | with_reducible rfl | done
       clear hK K
     try simp only [Act.put, sjA, sj0, sjS]
    refine wpQuiet_nil ?_
    intro w7 hb7
    have HF7 := hid (HF6.out.below hb7)
    have hno : doneB G l us i = false := decide_eq_false fun h => by
     have := h.2.2.2
     rw [HGD.out] at this
     have h2 := HBE.out.2 this
     rw [hbx] at h2
     cases h2
    have HF8 : Hid (Foot w.heap.size w w7 [blkI w.heap.size (.cells #[tv, ov, sv, pv, .int .i64 G.start] 27 (0, 0)), blkI b52 (.cells #[.slice (some ⟨ib, jf, none⟩) N ic, .slice (some ⟨ab, af, none⟩) N ac] 52 (0, 0)), queI w.heap.size 1 v (doneN G l us (i + 1)).length ((doneN G l us (i + 1)).map fun p => .int .i64 p)]) := hid (by rw [doneN_no hno]; exact HF7.out)
    clear hb7 hno
    go_wp2_with fail
    refine ⟨⟨i + 1, v, by omega, by go_num, rfl, HF8⟩, ?_⟩
    simp [RowKit.intOf]
    omega
   | none =>
    rw [hbx] at KH
    simp only [Option.getD_none, Option.isSome_none] at KH
    refine wp_region_below (by kernel_rfl) (by kernel_rfl) ?_
    iterate 12
     with_reducible refine BigFrame.wpQuiet_want (by kernel_rfl) (fun K hK => ?_)
     apply Exists.intro
     refine ⟨fun w' hC => ?_, hK _ ?_⟩
     ·have f0' := Z0.out w' hC
      have f1' := Z1.out w' hC
      have f2' := Z2.out w' hC
      have f3' := Z3.out w' hC
      have f4' := Z4.out w' hC
      have f5' := Z5.out w' hC
      have f6' := Z6.out w' hC
      have f7' := Z7.out w' hC
      unfold Oper.quietAt
      go_simp
      first | with_reducible rfl | with_reducible exact below_call hC (Nat.le_refl _) (KH.out w' hC)
     clear hK K
     try simp only [Act.put, sjA, sj0, sjS]
    refine wpQuiet_nil ?_
    intro w6 hb6
    have HF6 := hid (HF.out.below hb6)
    have HB6 := hid hb6
    have X0 := hid (show ∀ w', Below w6.heap.size w6 w' → w'.cell? ⟨w.heap.size, 0, none⟩ = some tv from fun w' hC => Z0.out w' (HB6.out.trans (hC.mono HB6.out.size)))
    have X1 := hid (show ∀ w', Below w6.heap.size w6 w' → w'.cell? ⟨w.heap.size, 1, none⟩ = some ov from fun w' hC => Z1.out w' (HB6.out.trans (hC.mono HB6.out.size)))
    have X2 := hid (show ∀ w', Below w6.heap.size w6 w' → w'.cell? ⟨w.heap.size, 2, none⟩ = some sv from fun w' hC => Z2.out w' (HB6.out.trans (hC.mono HB6.out.size)))
    have X3 := hid (show ∀ w', Below w6.heap.size w6 w' → w'.cell? ⟨w.heap.size, 3, none⟩ = some pv from fun w' hC => Z3.out w' (HB6.out.trans (hC.mono HB6.out.size)))
    have X4 := hid (show ∀ w', Below w6.heap.size w6 w' → w'.cell? ⟨w.heap.size, 4, none⟩ = some (.int .i64 G.start) from fun w' hC => Z4.out w' (HB6.out.trans (hC.mono HB6.out.size)))
    have X5 := hid (show ∀ w', Below w6.heap.size w6 w' → w'.cell? ⟨b52, 0, none⟩ = some (.slice (some ⟨ib, jf, none⟩) N ic) from fun w' hC => Z5.out w' (HB6.out.trans (hC.mono HB6.out.size)))
    have X6 := hid (show ∀ w', Below w6.heap.size w6 w' → w'.cell? ⟨ib, jf + i * 2, none⟩ = some (.int .i64 xp) from fun w' hC => Z6.out w' (HB6.out.trans (hC.mono HB6.out.size)))
    have X7 := hid (show ∀ w', Below w6.heap.size w6 w' → w'.cell? ⟨ib, jf + i * 2 + 1, none⟩ = some (.int .i64 xd) from fun w' hC => Z7.out w' (HB6.out.trans (hC.mono HB6.out.size)))
    have X8 := hid (show ∀ w', Below w6.heap.size w6 w' → w'.cell? ⟨b52, 1, none⟩ = some (.slice (some ⟨ab, af, none⟩) N ac) from fun w' hC => Z8.out w' (HB6.out.trans (hC.mono HB6.out.size)))
    have X9 := hid (show ∀ w', Below w6.heap.size w6 w' → w'.cell? ⟨ab, af + i, none⟩ = some (u64 uk) from fun w' hC => Z9.out w' (HB6.out.trans (hC.mono HB6.out.size)))
    have KJ := hid (show ∀ w', Below w6.heap.size w6 w' → Calls Tryz.prog 57 #[.agg #[tv, ov, sv, pv, .int .i64 G.start], .agg #[.int .i64 xp, .int .i64 xd]] w' fun e w'' => e = .returned (.bool true) ∧ Below w'.heap.size w' w'' from fun w' hC => KI.out w' (HB6.out.trans (hC.mono HB6.out.size)))
    clear hb6
    go_wp2_with fail
    by_cases hu0 : uk = 0
    ·have z0 : (((uk : Nat) : Int) != 0) = false := by rw [hu0]; rfl
     refine wp_region_below (by kernel_rfl) (by kernel_rfl) ?_
     iterate 19
      with_reducible refine BigFrame.wpQuiet_want (by kernel_rfl) (fun K hK => ?_)
      apply Exists.intro
      refine ⟨fun w' hC => ?_, hK _ ?_⟩
      ·have f0' := X0.out w' hC
       have f1' := X1.out w' hC
       have f2' := X2.out w' hC
       have f3' := X3.out w' hC
       have f4' := X4.out w' hC
       have f5' := X5.out w' hC
       have f6' := X6.out w' hC
       have f7' := X7.out w' hC
       have f8' := X8.out w' hC
       have f9' := X9.out w' hC
       unfold Oper.quietAt
       go_simp
       first | with_reducible rfl | with_reducible exact below_call hC (Nat.le_refl _) (KJ.out w' hC)
      clear hK K
      try simp only [Act.put, sjA, sj0, sjS]
     refine wpQuiet_nil ?_
     intro w7 hb7
     have HF7 := hid (HF6.out.below hb7)
     have hno : doneB G l us i = false := decide_eq_false fun h => h.2.1 (by rw [HUK.out]; exact hu0)
     have HF8 : Hid (Foot w.heap.size w w7 [blkI w.heap.size (.cells #[tv, ov, sv, pv, .int .i64 G.start] 27 (0, 0)), blkI b52 (.cells #[.slice (some ⟨ib, jf, none⟩) N ic, .slice (some ⟨ab, af, none⟩) N ac] 52 (0, 0)), queI w.heap.size 1 v (doneN G l us (i + 1)).length ((doneN G l us (i + 1)).map fun p => .int .i64 p)]) := hid (by rw [doneN_no hno]; exact HF7.out)
     clear hb7 hno
     go_wp2_with fail
     refine ⟨⟨i + 1, v, by omega, by go_num, rfl, HF8⟩, ?_⟩
     simp [RowKit.intOf]
     omega
    ·have z0 : (((uk : Nat) : Int) != 0) = true := by rw [bne_iff_ne]; omega
     refine wp_region_below (by kernel_rfl) (by kernel_rfl) ?_
     iterate 19
      with_reducible refine BigFrame.wpQuiet_want (by kernel_rfl) (fun K hK => ?_)
      apply Exists.intro
      refine ⟨fun w' hC => ?_, hK _ ?_⟩
      ·have f0' := X0.out w' hC
       have f1' := X1.out w' hC
       have f2' := X2.out w' hC
       have f3' := X3.out w' hC
       have f4' := X4.out w' hC
       have f5' := X5.out w' hC
       have f6' := X6.out w' hC
       have f7' := X7.out w' hC
       have f8' := X8.out w' hC
       have f9' := X9.out w' hC
       unfold Oper.quietAt
       go_simp
       first | with_reducible rfl | with_reducible exact below_call hC (Nat.le_refl _) (KJ.out w' hC)
      clear hK K
      try simp only [Act.put, sjA, sj0, sjS]
     refine wpQuiet_nil ?_
     intro w7 hb7
     have HF7 := hid (HF6.out.below hb7)
     have hyes : doneB G l us i = true := decide_eq_true ⟨by rw [HUL.out, HN.out]; exact hlt, by rw [HUK.out]; exact hu0, by rw [HGD.out, HCL.out]; exact HME.out, by rw [HGD.out]; exact HBE.out.1 hbx⟩
     have HYES := hid hyes
     have x0 := X6.out w7 hb7
     have x5 := X5.out w7 hb7
     obtain ⟨vo, vc, rfl⟩ := (show ownsT w7 w.heap.size 1 v (doneN G l us i).length _ from HF7.out.ok 2 _ rfl).shape
     obtain ⟨wq, eq⟩ : ∃ z, w7.alloc (.cells #[.int .i64 xp] 3) = z := ⟨_, rfl⟩
     have nq : wq.heap[w7.heap.size]? = some (.cells #[.int .i64 xp] 3 (0, 0)) := by rw [← eq]; exact new_block _ _
     have HFq := hid (HF7.out.below (show Below w7.heap.size w7 wq by rw [← eq]; exact (Below.refl _ _).alloc (Nat.le_refl _) _))
     have HCQ := hid (show ∀ i u, [Value.int .i64 xp][i]? = some u → wq.cell? ⟨w7.heap.size, i, none⟩ = some u from fun i u hi => by
      rw [Lib.cell_of_heap nq, ← hi, ← List.getElem?_toArray])
     have HBq := hid (show w.heap.size ≤ wq.heap.size from Nat.le_trans HFq.out.le HFq.out.bel.size)
     have HOW := hid (show ownsT wq w.heap.size 1 (.slice vo (doneN G l us i).length vc) (doneN G l us i).length ((doneN G l us i).map fun p => Value.int .i64 p) from HFq.out.ok 2 _ rfl)
     have HDL := hid (show (doneN G l us i).length ≤ 1000000000000 from by have := HLEN.out; omega)
     clear hb7 nq hyes X0 X1 X2 X3 X4 X5 X6 X7 X8 X9 Z0 Z1 Z2 Z3 Z4 Z5 Z6 Z7 Z8 Z9 KH KI
     go_wp2_with (refine wpList_push_T rfl (.tmp 52) (.tmp 59) 43 3 rfl (.int .i64 0) 1 8 Tryz.underlying43 info3 rfl (by decide) (.slice vo (doneN G l us i).length vc) (doneN G l us i).length ((doneN G l us i).map fun p => Value.int .i64 p) rfl HOW.out w7.heap.size rfl [.int .i64 xp] rfl HCQ.out (fun q hq => by obtain rfl : q = .int .i64 xp := (by simpa using hq); rfl) HDL.out HBq.out ?_)
     intro ao2 c8 w8 hown hg8 hat
     have h8 := HFq.out.push_que 2 rfl hown hg8 hat
     have e8 : (doneN G l us i).length + 1 = (doneN G l us (i + 1)).length := by rw [doneN_yes HYES.out, List.length_append]; rfl
     have e9 : (doneN G l us i).map (fun p => Value.int .i64 p) ++ [.int .i64 xp] = (doneN G l us (i + 1)).map fun p => Value.int .i64 p := by rw [doneN_yes HYES.out, List.map_append, HGD.out]; rfl
     rw [e8, e9] at h8
     rw [e8]
     have HF8 := hid h8
     clear h8 hown hg8 hat e8 e9 eq x0 x5
     go_wp2_with fail
     refine ⟨⟨i + 1, _, by omega, by go_num, rfl, HF8⟩, ?_⟩
     simp [RowKit.intOf]
     omega
  ·have j1 : ¬ (i : Int) < (N : Int) := by omega
   obtain rfl : i = N := by omega
   go_wp2_with fail
   go_ret
   refine ⟨v, rfl, HF.out.bel, ?_⟩
   rw [HN.out]
   exact HF.out.ok 2 _ rfl
end Go.Proofs.YticmnfmijdgmbaaGreatDoor
