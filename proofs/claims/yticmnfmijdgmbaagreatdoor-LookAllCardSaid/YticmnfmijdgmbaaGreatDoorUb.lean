/- The document's Build. -/
import Derived.Test.YticmnfmijdgmbaaGreatDoorGb
import Derived.Test.YticmnfmijdgmbaaGreatDoorUa
namespace Go.Proofs.YticmnfmijdgmbaaGreatDoor
open Go Go.RowKit Go.Lib
open X14 (It numX stepX closeX closeV stepV iterB Built BuiltOk BuiltMany rowS symsX thereX Kers)
set_option linter.unusedVariables false
set_option linter.unusedSimpArgs false
set_option maxRecDepth 100000 in
set_option maxHeartbeats 32000000 in
theorem RBuild_any {G : GD} {gv : Value} {w : World} (h : Gram w gv G) : Calls Tryz.prog 46 #[gv] w (BuildP G w) := by
 have HGr := hid h
 obtain ⟨tv, ov, sv, pv, tf, rv, h⟩ := h
 have hgv := h.eq
 subst hgv
 obtain ⟨to_, tc, rfl, htn, _⟩ := h.terms
 obtain ⟨so, sc, rfl, hsn, _⟩ := h.sorts
 obtain ⟨W1, e1⟩ : ∃ W1, w.alloc (.cells #[.slice to_ G.terms.length tc, ov, .slice so G.sorts.length sc, pv, .int .i64 G.start] 27) = W1 := ⟨_, rfl⟩
 have hb1 : Below w.heap.size w W1 := by rw [← e1]; exact (Below.refl _ _).alloc (Nat.le_refl _) _
 have n1 : W1.heap[w.heap.size]? = some (.cells #[.slice to_ G.terms.length tc, ov, .slice so G.sorts.length sc, pv, .int .i64 G.start] 27 (0, 0)) := by rw [← e1]; exact new_block _ _
 obtain ⟨W2, e2⟩ : ∃ W2, W1.alloc (.cells #[.slice none 0 0, .slice none 0 0] 38) = W2 := ⟨_, rfl⟩
 have hb2 : Below W1.heap.size W1 W2 := by rw [← e2]; exact (Below.refl _ _).alloc (Nat.le_refl _) _
 have n2 : W2.heap[W1.heap.size]? = some (.cells #[.slice none 0 0, .slice none 0 0] 38 (0, 0)) := by rw [← e2]; exact new_block _ _
 have hbw := hb1.trans (hb2.mono hb1.size)
 have n1' := (hb2.block _ (Array.getElem?_eq_some_iff.1 n1).1).trans n1
 have b0 := Lib.cell_of_heap n1' 0
 have b1 := Lib.cell_of_heap n1' 1
 have b2 := Lib.cell_of_heap n1' 2
 have b3 := Lib.cell_of_heap n1' 3
 have b4 := Lib.cell_of_heap n1' 4
 have KV := hid (RValid_any (h.mono hbw))
 obtain ⟨vv, hvv⟩ : ∃ vv, validB G = vv := ⟨_, rfl⟩
 have HVV := hid hvv
 rw [hvv] at KV
 obtain ⟨bR, hbR⟩ : ∃ bR, W1.heap.size = bR := ⟨_, rfl⟩
 rw [hbR] at n2
 have H1 := hid (And.intro n1 hb1)
 have H2 := hid (And.intro n2 hb2)
 have HSR := hid (And.intro hb1.size hbR)
 clear h hbw hvv hb1 hb2 n1 n2 n1'
 go_enter Tryz.func46, Tryz.ntmps46
 go_wp2_with fail
 refine KV.out.mono ?_
 rintro e w3 ⟨rfl, hb3⟩
 have n2' := (hb3.block _ (Array.getElem?_eq_some_iff.1 H2.out.1).1).trans H2.out.1
 have r0 := Lib.cell_of_heap n2' 0
 have r1 := Lib.cell_of_heap n2' 1
 have q0 := Lib.frozen_of_heap n2' 0
 have q1 := Lib.frozen_of_heap n2' 1
 have hS2 := H2.out.2.size
 have hSz := HSR.out.1
 have HB3 := hid hb3
 clear KV b0 b1 b2 b3 b4
 cases vv
 ·obtain ⟨wa, ea⟩ : ∃ wa, w3.setCell ⟨bR, 0, none⟩ (.slice none 0 0) = wa := ⟨_, rfl⟩
  have na : wa.heap[bR]? = some (.cells #[.slice none 0 0, .slice none 0 0] 38 (0, 0)) := by rw [← ea]; exact heap_setCell_same _ _ 0 _ 38 _ n2'
  have ra := Lib.cell_of_heap na 1
  have qa := Lib.frozen_of_heap na 1
  obtain ⟨wb, eb⟩ : ∃ wb, wa.setCell ⟨bR, 1, none⟩ (.slice none 0 0) = wb := ⟨_, rfl⟩
  have HNB := hid (show wb.heap[bR]? = some (.cells #[.slice none 0 0, .slice none 0 0] 38 (0, 0)) from by rw [← eb]; exact heap_setCell_same _ _ 1 _ 38 _ na)
  have hle : w.heap.size ≤ bR := by rw [← hbR]; exact hSz
  have HFIN := hid (show Below w.heap.size w wb from by
   rw [← eb, ← ea]
   exact ((H1.out.2.trans ((H2.out.2.trans (hb3.mono hS2)).mono hSz)).setCell hle _).setCell hle _)
  clear hb3 n2' na
  go_wp2_with fail
  refine bodyPost_ret (v := .tuple #[noAut, .int .i64 1]) (results55 rfl _ _ bR _ _ 1 rfl rfl HNB.out) rfl ?_
  exact ⟨HFIN.out, .inl ⟨HVV.out, rfl⟩⟩
 obtain ⟨W4, e4⟩ : ∃ W4, w3.alloc (.cells #[.int .i64 (-1), .int .i64 0] 110) = W4 := ⟨_, rfl⟩
 have n4 : W4.heap[w3.heap.size]? = some (.cells #[.int .i64 (-1), .int .i64 0] 110 (0, 0)) := by rw [← e4]; exact new_block _ _
 have h4 : Below w3.heap.size w3 W4 := by rw [← e4]; exact (Below.refl _ _).alloc (Nat.le_refl _) _
 obtain ⟨W5, e5⟩ : ∃ W5, W4.alloc (.cells #[.slice (some ⟨w3.heap.size, 0, none⟩) 1 1] 50) = W5 := ⟨_, rfl⟩
 have n5 : W5.heap[W4.heap.size]? = some (.cells #[.slice (some ⟨w3.heap.size, 0, none⟩) 1 1] 50 (0, 0)) := by rw [← e5]; exact new_block _ _
 have h5 : Below W4.heap.size W4 W5 := by rw [← e5]; exact (Below.refl _ _).alloc (Nat.le_refl _) _
 obtain ⟨W6, e6⟩ : ∃ W6, W5.alloc (.cells #[.slice none 0 0, .slice none 0 0] 38) = W6 := ⟨_, rfl⟩
 have n6 : W6.heap[W5.heap.size]? = some (.cells #[.slice none 0 0, .slice none 0 0] 38 (0, 0)) := by rw [← e6]; exact new_block _ _
 have c6 := Lib.cell_of_heap n6 0
 have f6 := Lib.frozen_of_heap n6 0
 obtain ⟨W7, e7⟩ : ∃ W7, W6.setCell ⟨W5.heap.size, 0, none⟩ (.slice (some ⟨W4.heap.size, 0, none⟩) 1 1) = W7 := ⟨_, rfl⟩
 have n7 : W7.heap[W5.heap.size]? = some (.cells #[.slice (some ⟨W4.heap.size, 0, none⟩) 1 1, .slice none 0 0] 38 (0, 0)) := by rw [← e7]; exact heap_setCell_same _ _ 0 _ 38 _ n6
 have c7 := Lib.cell_of_heap n7 1
 have f7 := Lib.frozen_of_heap n7 1
 obtain ⟨W8, e8⟩ : ∃ W8, W7.setCell ⟨W5.heap.size, 1, none⟩ (.slice none 0 0) = W8 := ⟨_, rfl⟩
 have n8 : W8.heap[W5.heap.size]? = some (.cells #[.slice (some ⟨W4.heap.size, 0, none⟩) 1 1, .slice none 0 0] 38 (0, 0)) := by rw [← e8]; exact heap_setCell_same _ _ 1 _ 38 _ n7
 have h8 : Below W5.heap.size W5 W8 := by
  rw [← e8, ← e7, ← e6]
  exact (((Below.refl _ _).alloc (Nat.le_refl _) _).setCell (Nat.le_refl _) _).setCell (Nat.le_refl _) _
 have HBF := hid (rb_start H1.out.1 H1.out.2 hbR H2.out.1 H2.out.2 HB3.out rfl n4 h4 rfl n5 h5 rfl n8 h8)
 clear hb3 n2' n4 h4 n5 h5 n6 n7 n8 h8 r0 r1 q0 q1 H1 H2 HB3 hS2 HSR
 go_wp2_with fail
 clear c6 f6 c7 f7 e4 e5 e6 e7 e8 e1 e2
 generalize W5.heap.size = bA at *
 generalize w3.heap.size = g0 at *
 generalize W4.heap.size = gK at *
 go_loopw [6, 7, 8, 9, 10, 11, 12] (fun t6 t7 t8 t9 t10 t11 t12 wr => ∃ (m : Nat) (K : List KR) (N : List NR) (F : List (Nat × List It)) (kv nv : Value), t6 = .int .i64 (m : Int) ∧ Hid (Built G m ∧ kers K = (iterB G m).ker ∧ nxts N = (iterB G m).nx) ∧ Hid (RB w.heap.size w wr bA w.heap.size bR #[.slice to_ G.terms.length tc, ov, .slice so G.sorts.length sc, pv, .int .i64 G.start] kv nv K N F (.slice none 0 0) [])) (fun t6 _ _ _ _ _ _ _ => 2001 - (RowKit.intOf t6).toNat)
 case atStart => exact ⟨0, _, _, _, _, _, rfl, hid ⟨Built.zero G, rfl, rfl⟩, HBF⟩
 case round =>
  clear HBF
  obtain ⟨m, K, N, F, kv, nv, rfl, HJ, HBF⟩ := hrel
  have hK2 : K.length ≤ 2000 := by
   have := HJ.out.1.le
   rw [← HJ.out.2.1, kers_len] at this
   exact this
  have hrK := HBF.out.rowK
  rw [List.length_map] at hrK
  obtain ⟨ko, kc, rfl⟩ := own_shape hrK
  have cA0 : wr.cell? ⟨bA, 0, none⟩ = some (.slice ko K.length kc) := Lib.cell_of_heap HBF.out.boxA 0
  by_cases hlt : m < K.length
  ·have t1 : (m : Int) < (K.length : Int) := by omega
   have t2 : (0 : Int) ≤ (m : Int) := by omega
   obtain ⟨q, hq⟩ : ∃ q, K[m]? = some q := ⟨_, List.getElem?_eq_getElem hlt⟩
   have HQ := hid hq
   have hql : q.2.2.length ≤ 1573 := X14.iter_len HVV.out m q.2.2 (by rw [← HJ.out.2.1]; exact List.mem_map.2 ⟨q, List.mem_of_getElem? hq, rfl⟩)
   have hmq : (iterB G m).ker.getD m [] = q.2.2 := by
    rw [← HJ.out.2.1]
    exact X14.getD_get (by unfold kers; rw [List.getElem?_map, hq]; rfl)
   have HSU := hid (X14.iter_succ G m)
   rw [hmq] at HSU
   obtain ⟨L, hL⟩ : ∃ L, closeX G q.2.2 = L := ⟨_, rfl⟩
   have HL := hid hL
   rw [hL] at HSU
   have hker0 : (iterB G m).ker.length = K.length := by rw [← HJ.out.2.1, kers_len]
   have HKK := hid (X14.InvB.iter G m HJ.out.1.1).kers
   obtain ⟨KER, hKER⟩ : ∃ KER, (iterB G m).ker = KER := ⟨_, rfl⟩
   have HKE := hid hKER
   rw [hKER] at HSU hker0 HKK
   obtain ⟨nt, hnt⟩ : ∃ nt, G.terms.length = nt := ⟨_, rfl⟩
   obtain ⟨ns, hns⟩ : ∃ ns, G.sorts.length = ns := ⟨_, rfl⟩
   have HNT := hid hnt
   have HNS := hid hns
   have hvp := valid_parts HVV.out
   have hnt60 : nt ≤ 60 := by rw [← hnt]; exact hvp.1
   have hns60 : ns ≤ 60 := by rw [← hns]; exact hvp.2.1
   have hns1 : 1 ≤ ns := by
    have := valid_start HVV.out
    omega
   rw [hnt, hns] at HBF
   have HSL := hid (show (symsX G).length = nt + ns from by rw [X14.symsX_len, hnt, hns])
   have hwr : IntKind.i64.wrap ((nt : Int) + (ns : Int)) = (nt : Int) + (ns : Int) := wrap_small (by omega) (by omega)
   clear hq hmq hL hKER hnt hns hvp hrK
   go_wp2_with fail
   clear cA0
   generalize hwo : wr = wo at *
   clear hwo
   go_loopw [7, 8, 9, 10, 11, 12] (fun t7 t8 t9 t10 t11 t12 wz => ∃ (t : Nat) (KP : List KR) (F' : List (Nat × List It)) (kv' : Value), t ≤ nt + ns ∧ t8 = .int .i64 (t : Int) ∧ Hid (KP[m]? = some q) ∧ Hid (kers KP = (rowS G L KER t).2) ∧ Hid (RB w.heap.size w wz bA w.heap.size bR #[.slice to_ nt tc, ov, .slice so ns sc, pv, .int .i64 G.start] kv' nv KP N F' t7 (zints (rowS G L KER t).1))) (fun _ t8 _ _ _ _ _ => nt + ns - (RowKit.intOf t8).toNat)
   case atStart => exact ⟨0, K, F, _, Nat.zero_le _, rfl, HQ, hid (HJ.out.2.1.trans HKE.out), HBF⟩
   case round =>
    clear HBF
    obtain ⟨t, KP, F', kv', htn, rfl, HQ', HKP, HBF⟩ := hrel
    have hlen := X14.rowS_len G L KER t
    have hKl : KP.length ≤ 100000 := by
     have h2 := congrArg List.length HKP.out
     rw [kers_len] at h2
     omega
    have hmK : m < KP.length := (List.getElem?_eq_some_iff.1 HQ'.out).1
    have hmK2 : (m : Int) < (KP.length : Int) := by omega
    have HLENS := hid (show ∀ k ∈ kers KP, k.length ≤ 1573 from fun k hk => by
     rw [HKP.out] at hk
     rcases X14.rowX_mem G L ((symsX G).take t) ([], KER) k hk with h1 | ⟨y, rfl⟩
     ·exact X14.iter_len HVV.out m k (by rw [HKE.out]; exact h1)
     ·rw [← HL.out]; exact X14.step_le q.2.2 y HVV.out)
    have c0 : wr.cell? ⟨w.heap.size, 0, none⟩ = some (.slice to_ nt tc) := Lib.cell_of_heap HBF.out.boxG 0
    have c2 : wr.cell? ⟨w.heap.size, 2, none⟩ = some (.slice so ns sc) := Lib.cell_of_heap HBF.out.boxG 2
    by_cases hlt2 : t < nt + ns
    ·have t3 : (t : Int) < (nt : Int) + (ns : Int) := by omega
     have t3' : t < nt + ns := hlt2
     by_cases hltn : t < nt
     ·have t4 : ¬ (nt : Int) ≤ (t : Int) := by omega
      have t5 : decide (nt ≤ t) = false := decide_eq_false (by omega)
      have hsy : (symsX G)[t]? = some (t : Int) := X14.syms_term (G := G) (t := t) (by rw [HNT.out]; exact hltn)
      have HRS := hid (X14.rowS_succ (c := L) (ker := KER) hsy)
      obtain ⟨gk, ck, rfl, hck⟩ := HBF.out.ker (by omega) HQ'.out
      unfold kval at hck
      have cA0 : wr.cell? ⟨bA, 0, none⟩ = some (.slice (some ⟨gk, 0, none⟩) KP.length ck) := Lib.cell_of_heap HBF.out.boxA 0
      obtain ⟨we, ewe⟩ : ∃ we, wr.drew = we := ⟨_, rfl⟩
      have hbe : Below wr.heap.size wr we := by rw [← ewe]; exact (Below.refl _ _).drew
      have HBFe := hid (HBF.out.below hbe)
      have HS := hid (show ∀ w', Below we.heap.size we w' → (w'.cell? ⟨w.heap.size, 0, none⟩ = some (.slice to_ nt tc) ∧ w'.cell? ⟨w.heap.size, 1, none⟩ = some (ov) ∧ w'.cell? ⟨w.heap.size, 2, none⟩ = some (.slice so ns sc) ∧ w'.cell? ⟨w.heap.size, 3, none⟩ = some (pv) ∧ w'.cell? ⟨w.heap.size, 4, none⟩ = some (.int .i64 G.start) ∧ w'.cell? ⟨bA, 0, none⟩ = some (.slice (some ⟨gk, 0, none⟩) KP.length ck) ∧ w'.cell? ⟨gk, m, none⟩ = some (.slice (some ⟨q.1, 0, none⟩) q.2.2.length q.2.1)) from fun w' hC => by
       have hh := hbe.trans (hC.mono hbe.size)
       have nG := (hh.block _ (Array.getElem?_eq_some_iff.1 HBF.out.boxG).1).trans HBF.out.boxG
       exact ⟨Lib.cell_of_heap nG 0, Lib.cell_of_heap nG 1, Lib.cell_of_heap nG 2, Lib.cell_of_heap nG 3, Lib.cell_of_heap nG 4, cell_below hh cA0, cell_below hh hck⟩)
      have HH0 := HS.out we (Below.refl _ _)
      have hsv : stepV G q.2.2 ((t : Int)) = stepX G L ((t : Int)) := by
       show stepX G (closeV G q.2.2) ((t : Int)) = _
       rw [closeV_eq HVV.out, HL.out]
      have KS := hid (RStep_any (l := q.2.2) (by rw [HNT.out, HNS.out] at HGr; exact HGr.out.below HBFe.out.bel) (rowH_items (l := q.2.2) (g := q.1) (c := q.2.1) (HBFe.out.froz (q.1, q.2.2) (HBF.out.inF q (List.mem_of_getElem? HQ'.out))) (by omega)) (by omega) ((t : Int)))
      rw [hsv] at KS
      have hSl : (stepX G L ((t : Int))).length ≤ 1573 := by rw [← hsv]; exact X14.stepV_len G q.2.2 ((t : Int))
      obtain ⟨S, hS⟩ : ∃ S, stepX G L ((t : Int)) = S := ⟨_, rfl⟩
      rw [hS] at KS HRS hSl
      obtain ⟨TS, hTS⟩ : ∃ TS, (rowS G L KER (t)).1 = TS := ⟨_, rfl⟩
      have HKR := hid (rows_kers (G := G) (c := L) HKK.out (t))
      obtain ⟨KS', hKS⟩ : ∃ KS', (rowS G L KER (t)).2 = KS' := ⟨_, rfl⟩
      rw [hTS, hKS] at HRS
      rw [hTS] at HBF HBFe hlen
      rw [hKS] at HKP hlen HKR
      obtain rfl : kers KP = KS' := HKP.out
      have hTSl : TS.length ≤ 1000 := by omega
      obtain ⟨ro, rc, rfl⟩ := own_shape HBF.out.row
      have hzl : (zints TS).length = TS.length := by unfold zints; rw [List.length_map]
      rw [hzl] at HBF HBFe
      clear hsv hsy hS hTS hKS hlen hck hbe
      go_wp2_with fail
      refine region_T 8 (fun w' => w'.cell? ⟨w.heap.size, 0, none⟩ = some (.slice to_ nt tc) ∧ w'.cell? ⟨w.heap.size, 1, none⟩ = some (ov) ∧ w'.cell? ⟨w.heap.size, 2, none⟩ = some (.slice so ns sc) ∧ w'.cell? ⟨w.heap.size, 3, none⟩ = some (pv) ∧ w'.cell? ⟨w.heap.size, 4, none⟩ = some (.int .i64 G.start) ∧ w'.cell? ⟨bA, 0, none⟩ = some (.slice (some ⟨gk, 0, none⟩) KP.length ck) ∧ w'.cell? ⟨gk, m, none⟩ = some (.slice (some ⟨q.1, 0, none⟩) q.2.2.length q.2.1)) (by kernel_rfl) (by rw [ewe]; exact HH0) (fun inv hHeld => ?_)
      rw [ewe]
      clear hHeld ewe
      iterate 7
       refine anyT_auto (v := ?_) rfl (by kernel_rfl) (fun _ _ _ h => h) (Or.inl ⟨by rfl, ?_⟩) HH0 inv (fun inv => ?_)
       rotate_left
       ·intro w hSw
        try dsimp only at hSw
        go_simp
        try with_reducible rfl
       simp only [Act.put, sjA, sj0, sjS]
      refine anyT_next (i := 7) (o := { dst := some 59, op := Go.Op.call { callee := Go.Callee.value (Go.Operand.func 89), args := #[Go.Operand.tmp 52, Go.Operand.tmp 57, Go.Operand.tmp 58], argTypes := #[27, 50, 61] }, type := 50, pos := "ref.go:133", after := #[{ on := 0, ground := Go.Ground.data }, { on := 5, ground := Go.Ground.data }, { on := 6, ground := Go.Ground.data }], guard := none }) (by kernel_rfl) rfl (by decide) inv (fun inv K' hK => ?_)
      go_simp
      refine KS.out.mono ?_
      rintro e w6 ⟨lv, rfl, hown, hb6⟩
      obtain ⟨lo, lc, rfl⟩ := own_shape hown
      have HIT := hid (own_items hown (by omega))
      have HOWN := hid hown
      have HB6 := hid hb6
      have HBF6 := hid (HBFe.out.below hb6)
      have HH1 := HS.out w6 hb6
      refine hK.out _ _ HH1 ?_
      clear hK K' HH0 hown hb6 KS
      try simp only [Act.put, sjA, sj0, sjS]
      refine anyT_one (i := 8) (o := { dst := some 10, op := Go.Op.assign (Go.Operand.tmp 59), type := 50, pos := "ref.go:133", after := #[{ on := 7, ground := Go.Ground.data }, { on := 7, ground := Go.Ground.chain }, { on := 0, ground := Go.Ground.phase }, { on := 1, ground := Go.Ground.phase }, { on := 2, ground := Go.Ground.phase }, { on := 3, ground := Go.Ground.phase }, { on := 4, ground := Go.Ground.phase }, { on := 5, ground := Go.Ground.phase }, { on := 6, ground := Go.Ground.phase }, { on := 7, ground := Go.Ground.phase }], guard := none }) (by kernel_rfl) rfl (fun K' hK => ?_)
      go_simp
      refine hK.out _ _ (fun h => absurd h (by decide)) ?_
      clear hK K'
      try simp only [Act.put, sjA, sj0, sjS]
      refine anyT_done (by kernel_rfl) ?_ _
      clear HH1 HS HBF cA0 c0 c2
      go_wp2_with fail
      go_loopw [11, 12] (fun t11 t12 wz => ∃ i : Nat, i ≤ KP.length ∧ t12 = .int .i64 (i : Int) ∧ ((t11 = .int .i64 (-1) ∧ Hid (∀ j, j < i → (kers KP)[j]? ≠ some S)) ∨ (∃ r : Nat, t11 = .int .i64 (r : Int) ∧ Hid ((∀ j, j < r → (kers KP)[j]? ≠ some S) ∧ (kers KP)[r]? = some S))) ∧ Hid (Below w6.heap.size w6 wz)) (fun _ t12 _ => KP.length - (RowKit.intOf t12).toNat)
      case atStart => exact ⟨0, Nat.zero_le _, rfl, .inl ⟨rfl, hid (fun j hj => absurd hj (Nat.not_lt_zero j))⟩, hid (Below.refl _ _)⟩
      case round =>
       obtain ⟨i, hin, rfl, HT, HZ⟩ := hrel
       have HBz := hid (HBF6.out.below HZ.out)
       have cA0 : wr.cell? ⟨bA, 0, none⟩ = some (.slice (some ⟨gk, 0, none⟩) KP.length ck) := Lib.cell_of_heap HBz.out.boxA 0
       rcases HT with ⟨rfl, HNF⟩ | ⟨r, rfl, HFO⟩
       ·by_cases hli : i < KP.length
        ·have i1 : (i : Int) < (KP.length : Int) := by omega
         have i0 : (0 : Int) ≤ (i : Int) := by omega
         obtain ⟨qi, hqi⟩ : ∃ qi, KP[i]? = some qi := ⟨_, List.getElem?_eq_getElem hli⟩
         obtain ⟨g2, c2, e2, hc2⟩ := HBz.out.ker (by omega) hqi
         injection e2 with e2 _ e3
         injection e2 with e2
         injection e2 with e2
         subst e2
         subst e3
         unfold kval at hc2
         have hki : (kers KP)[i]? = some qi.2.2 := by unfold kers; rw [List.getElem?_map, hqi]; rfl
         have hkl : qi.2.2.length ≤ 9223372036854775807 := by
          have h1 := HBz.out.rowK
          have h2 := HBz.out.froz (qi.1, qi.2.2) (HBz.out.inF qi (List.mem_of_getElem? hqi))
          have h3 := HLENS.out qi.2.2 (List.mem_of_getElem? hki)
          omega
         have KR := hid (RRow_any (l := qi.2.2) (rowH_items (l := qi.2.2) (g := qi.1) (c := qi.2.1) (HBz.out.froz (qi.1, qi.2.2) (HBz.out.inF qi (List.mem_of_getElem? hqi))) hkl) (HIT.out.below HZ.out))
         obtain ⟨be, hbe⟩ : ∃ be, decide (qi.2.2 = S) = be := ⟨_, rfl⟩
         rw [hbe] at KR
         have HBE := hid hbe
         have HKI := hid hki
         clear hqi hki hkl hbe
         go_wp2_with fail
         refine KR.out.mono ?_
         rintro e w7 ⟨rfl, hb7⟩
         have HZ7 := hid (HZ.out.trans (hb7.mono HZ.out.size))
         clear hb7 KR
         cases be
         ·have HN2 := hid (show ∀ j, j < i + 1 → (kers KP)[j]? ≠ some S from fun j hj => by
           by_cases e : j < i
           ·exact HNF.out j e
           ·obtain rfl : j = i := by omega
            rw [HKI.out]
            intro e
            exact of_decide_eq_false HBE.out (Option.some.inj e))
          go_wp2_with fail
          refine ⟨⟨i + 1, by omega, rfl, .inl ⟨rfl, HN2⟩, HZ7⟩, ?_⟩
          show KP.length - ((i : Int) + 1).toNat < KP.length - ((i : Int)).toNat
          omega
         ·have HN2 := hid (show (∀ j, j < i → (kers KP)[j]? ≠ some S) ∧ (kers KP)[i]? = some S from ⟨HNF.out, by rw [HKI.out, of_decide_eq_true HBE.out]⟩)
          go_wp2_with fail
          refine ⟨⟨i + 1, by omega, rfl, .inr ⟨i, rfl, HN2⟩, HZ7⟩, ?_⟩
          show KP.length - ((i : Int) + 1).toNat < KP.length - ((i : Int)).toNat
          omega
        ·have i1 : ¬ (i : Int) < (KP.length : Int) := by omega
         have hie : i = KP.length := by omega
         by_cases hS0 : 0 < S.length
         ·have z0 : (0 : Int) < (S.length : Int) := by omega
          have hSne : S ≠ [] := fun e => by rw [e] at hS0; exact absurd hS0 (by decide)
          have HNUM := hid (show numX S (kers KP) = ((KP.length : Int), kers KP ++ [S]) from by
           have := num_new hSne (ker := kers KP) (fun j hj => HNF.out j (by rw [kers_len] at hj; omega))
           rw [kers_len] at this
           exact this)
          obtain ⟨gl, rfl⟩ : ∃ gl, lo = some ⟨gl, 0, none⟩ := by
           obtain ⟨z, hz⟩ : ∃ z, S.length = z + 1 := ⟨S.length - 1, by omega⟩
           have h2 := HOWN.out
           rw [hz] at h2
           obtain ⟨g, c, e, _⟩ := own_shape1 h2
           injection e with e
           exact ⟨g, e⟩
          have HBFs := hid ((HBFe.out.step HOWN.out HB6.out).below HZ.out)
          obtain ⟨wp, ep⟩ : ∃ wp, wr.alloc (.cells #[.slice (some ⟨gl, 0, none⟩) S.length lc] 50) = wp := ⟨_, rfl⟩
          have hbp : Below wr.heap.size wr wp := by rw [← ep]; exact (Below.refl _ _).alloc (Nat.le_refl _) _
          have HNP := hid (show wp.heap[wr.heap.size]? = some (.cells #[.slice (some ⟨gl, 0, none⟩) S.length lc] 50 (0, 0)) from by rw [← ep]; exact new_block _ _)
          have HBFp := hid (HBFs.out.below hbp)
          have hdp := HBFp.out.size
          have HROWK := hid HBFp.out.rowK
          have hKm : (KP.map kval).length ≤ 1000000 := by rw [List.length_map]; omega
          clear hbp hie HIT HBz HBF6 hSne
          go_wp2_with (at_builtin; refine wpList_push1 rfl (.tmp 90) (.tmp 92) 35 50 rfl (.slice none 0 0) 24 Tryz.underlying35 info32 rfl (by decide) w.heap.size (.slice (some ⟨gk, 0, none⟩) KP.length ck) (KP.map kval) rfl HROWK.out wr.heap.size rfl (.slice (some ⟨gl, 0, none⟩) S.length lc) HNP.out rfl hKm hdp ?_)
          intro v7 w7 hown7 hg7 hat7
          obtain ⟨nA, hbf8⟩ := HBFp.out.push (List.mem_append_right _ (List.mem_singleton.2 rfl)) (by simpa using hown7) hg7 hat7
          have cA7 : w7.cell? ⟨bA, 0, none⟩ = some (.slice (some ⟨gk, 0, none⟩) KP.length ck) := Lib.cell_of_heap nA 0
          have fA7 := Lib.frozen_of_heap nA 0
          obtain ⟨o7, c7, rfl⟩ := own_shape hown7
          obtain ⟨w8, e8⟩ : ∃ w8, w7.setCell ⟨bA, 0, none⟩ (.slice o7 (KP.length + 1) c7) = w8 := ⟨_, rfl⟩
          rw [e8] at hbf8
          have HBFk := hid hbf8
          have HQ2 := hid (show (KP ++ [(gl, lc, S)])[m]? = some q from by rw [List.getElem?_append_left (List.getElem?_eq_some_iff.1 HQ'.out).1]; exact HQ'.out)
          have HNUM2 := hid (show numX S (kers KP) = ((KP.length : Int), kers (KP ++ [(gl, lc, S)])) from by rw [HNUM.out]; simp [kers])
          clear hown7 hg7 hat7 nA hbf8 ep cA0 HNUM HBFp HBFs
          obtain ⟨wq, eq⟩ : ∃ wq, w8.alloc (.cells #[.int .i64 ((KP.length : Int))] 3) = wq := ⟨_, rfl⟩
          have hbq : Below w8.heap.size w8 wq := by rw [← eq]; exact (Below.refl _ _).alloc (Nat.le_refl _) _
          have HNQ := hid (show wq.heap[w8.heap.size]? = some (.cells #[.int .i64 ((KP.length : Int))] 3 (0, 0)) from by rw [← eq]; exact new_block _ _)
          have HBFq := hid (HBFk.out.below hbq)
          have hdq := HBFq.out.size
          have hrow := HBFq.out.row
          have HROW := hid hrow
          have hzl2 : (zints TS).length ≤ 1000000 := by omega
          clear hbq hrow
          go_wp2_with (at_builtin; refine wpList_push1 rfl (.tmp 95) (.tmp 97) 43 3 rfl (.int .i64 0) 8 Tryz.underlying43 info3 rfl (by decide) w.heap.size (.slice ro TS.length rc) (zints TS) rfl HROW.out w8.heap.size rfl (.int .i64 ((KP.length : Int))) HNQ.out rfl hzl2 hdq ?_)
          intro v7 w7 hown7 hg7 hat7
          have HBF9 := hid (HBFq.out.number (ys := zints TS ++ [.int .i64 ((KP.length : Int))]) (by rw [List.length_append, hzl]; exact hown7) hg7 hat7)
          clear hown7 hg7 hat7 eq
          have HBF8 := hid (show RB w.heap.size w w7 bA w.heap.size bR #[.slice to_ nt tc, ov, .slice so ns sc, pv, .int .i64 G.start] _ nv (KP ++ [(gl, lc, S)]) N (F' ++ [(gl, S)]) v7 (zints (rowS G L KER (t + 1)).1) from by
           rw [HRS.out, HNUM2.out]
           have e1 : zints (TS ++ [((KP.length : Int) : Int)]) = zints TS ++ [.int .i64 ((KP.length : Int))] := by simp [zints]
           rw [e1]
           exact HBF9.out)
          have HK8 := hid (show kers (KP ++ [(gl, lc, S)]) = (rowS G L KER (t + 1)).2 from by rw [HRS.out, HNUM2.out])
          go_wp2_with fail
          refine ⟨⟨t + 1, (KP ++ [(gl, lc, S)]), (F' ++ [(gl, S)]), _, by omega, rfl, HQ2, HK8, HBF8⟩, ?_⟩
          show nt + ns - (((t : Int)) + 1).toNat < nt + ns - ((t : Int)).toNat
          omega
         ·have z0 : ¬ (0 : Int) < (S.length : Int) := by omega
          have HNUM := hid (show numX S (kers KP) = (-1, kers KP) from by
           obtain rfl : S = [] := List.eq_nil_of_length_eq_zero (by omega)
           exact num_nil _)
          clear hie
          obtain ⟨wq, eq⟩ : ∃ wq, wr.alloc (.cells #[.int .i64 (-1)] 3) = wq := ⟨_, rfl⟩
          have hbq : Below wr.heap.size wr wq := by rw [← eq]; exact (Below.refl _ _).alloc (Nat.le_refl _) _
          have HNQ := hid (show wq.heap[wr.heap.size]? = some (.cells #[.int .i64 (-1)] 3 (0, 0)) from by rw [← eq]; exact new_block _ _)
          have HBFq := hid (HBz.out.below hbq)
          have hdq := HBFq.out.size
          have hrow := HBFq.out.row
          have HROW := hid hrow
          have hzl2 : (zints TS).length ≤ 1000000 := by omega
          clear hbq hrow
          go_wp2_with (at_builtin; refine wpList_push1 rfl (.tmp 95) (.tmp 97) 43 3 rfl (.int .i64 0) 8 Tryz.underlying43 info3 rfl (by decide) w.heap.size (.slice ro TS.length rc) (zints TS) rfl HROW.out wr.heap.size rfl (.int .i64 (-1)) HNQ.out rfl hzl2 hdq ?_)
          intro v7 w7 hown7 hg7 hat7
          have HBF9 := hid (HBFq.out.number (ys := zints TS ++ [.int .i64 (-1)]) (by rw [List.length_append, hzl]; exact hown7) hg7 hat7)
          clear hown7 hg7 hat7 eq
          have HBF8 := hid (show RB w.heap.size w w7 bA w.heap.size bR #[.slice to_ nt tc, ov, .slice so ns sc, pv, .int .i64 G.start] _ nv KP N F' v7 (zints (rowS G L KER (t + 1)).1) from by
           rw [HRS.out, HNUM.out]
           have e1 : zints (TS ++ [(-1 : Int)]) = zints TS ++ [.int .i64 (-1)] := by simp [zints]
           rw [e1]
           exact HBF9.out)
          have HK8 := hid (show kers KP = (rowS G L KER (t + 1)).2 from by rw [HRS.out, HNUM.out])
          go_wp2_with fail
          refine ⟨⟨t + 1, KP, F', _, by omega, rfl, HQ', HK8, HBF8⟩, ?_⟩
          show nt + ns - (((t : Int)) + 1).toNat < nt + ns - ((t : Int)).toNat
          omega
       ·have p1 : ¬ (r : Int) < 0 := by omega
        have HNUM := hid (num_found HKR.out HFO.out.1 HFO.out.2)
        have hS0 : 0 < S.length := by
         have := HKR.out.some_ S (List.mem_of_getElem? HFO.out.2)
         cases S with
         | nil => exact absurd rfl this
         | cons a b => simp
        have z0 : (0 : Int) < (S.length : Int) := by omega
        by_cases hli : i < KP.length
        ·have i1 : (i : Int) < (KP.length : Int) := by omega
         obtain ⟨wq, eq⟩ : ∃ wq, wr.alloc (.cells #[.int .i64 ((r : Int))] 3) = wq := ⟨_, rfl⟩
         have hbq : Below wr.heap.size wr wq := by rw [← eq]; exact (Below.refl _ _).alloc (Nat.le_refl _) _
         have HNQ := hid (show wq.heap[wr.heap.size]? = some (.cells #[.int .i64 ((r : Int))] 3 (0, 0)) from by rw [← eq]; exact new_block _ _)
         have HBFq := hid (HBz.out.below hbq)
         have hdq := HBFq.out.size
         have hrow := HBFq.out.row
         have HROW := hid hrow
         have hzl2 : (zints TS).length ≤ 1000000 := by omega
         clear hbq hrow
         go_wp2_with (at_builtin; refine wpList_push1 rfl (.tmp 95) (.tmp 97) 43 3 rfl (.int .i64 0) 8 Tryz.underlying43 info3 rfl (by decide) w.heap.size (.slice ro TS.length rc) (zints TS) rfl HROW.out wr.heap.size rfl (.int .i64 ((r : Int))) HNQ.out rfl hzl2 hdq ?_)
         intro v7 w7 hown7 hg7 hat7
         have HBF9 := hid (HBFq.out.number (ys := zints TS ++ [.int .i64 ((r : Int))]) (by rw [List.length_append, hzl]; exact hown7) hg7 hat7)
         clear hown7 hg7 hat7 eq
         have HBF8 := hid (show RB w.heap.size w w7 bA w.heap.size bR #[.slice to_ nt tc, ov, .slice so ns sc, pv, .int .i64 G.start] _ nv KP N F' v7 (zints (rowS G L KER (t + 1)).1) from by
          rw [HRS.out, HNUM.out]
          have e1 : zints (TS ++ [((r : Int) : Int)]) = zints TS ++ [.int .i64 ((r : Int))] := by simp [zints]
          rw [e1]
          exact HBF9.out)
         have HK8 := hid (show kers KP = (rowS G L KER (t + 1)).2 from by rw [HRS.out, HNUM.out])
         go_wp2_with fail
         refine ⟨⟨t + 1, KP, F', _, by omega, rfl, HQ', HK8, HBF8⟩, ?_⟩
         show nt + ns - (((t : Int)) + 1).toNat < nt + ns - ((t : Int)).toNat
         omega
        ·have i1 : ¬ (i : Int) < (KP.length : Int) := by omega
         obtain ⟨wq, eq⟩ : ∃ wq, wr.alloc (.cells #[.int .i64 ((r : Int))] 3) = wq := ⟨_, rfl⟩
         have hbq : Below wr.heap.size wr wq := by rw [← eq]; exact (Below.refl _ _).alloc (Nat.le_refl _) _
         have HNQ := hid (show wq.heap[wr.heap.size]? = some (.cells #[.int .i64 ((r : Int))] 3 (0, 0)) from by rw [← eq]; exact new_block _ _)
         have HBFq := hid (HBz.out.below hbq)
         have hdq := HBFq.out.size
         have hrow := HBFq.out.row
         have HROW := hid hrow
         have hzl2 : (zints TS).length ≤ 1000000 := by omega
         clear hbq hrow
         go_wp2_with (at_builtin; refine wpList_push1 rfl (.tmp 95) (.tmp 97) 43 3 rfl (.int .i64 0) 8 Tryz.underlying43 info3 rfl (by decide) w.heap.size (.slice ro TS.length rc) (zints TS) rfl HROW.out wr.heap.size rfl (.int .i64 ((r : Int))) HNQ.out rfl hzl2 hdq ?_)
         intro v7 w7 hown7 hg7 hat7
         have HBF9 := hid (HBFq.out.number (ys := zints TS ++ [.int .i64 ((r : Int))]) (by rw [List.length_append, hzl]; exact hown7) hg7 hat7)
         clear hown7 hg7 hat7 eq
         have HBF8 := hid (show RB w.heap.size w w7 bA w.heap.size bR #[.slice to_ nt tc, ov, .slice so ns sc, pv, .int .i64 G.start] _ nv KP N F' v7 (zints (rowS G L KER (t + 1)).1) from by
          rw [HRS.out, HNUM.out]
          have e1 : zints (TS ++ [((r : Int) : Int)]) = zints TS ++ [.int .i64 ((r : Int))] := by simp [zints]
          rw [e1]
          exact HBF9.out)
         have HK8 := hid (show kers KP = (rowS G L KER (t + 1)).2 from by rw [HRS.out, HNUM.out])
         go_wp2_with fail
         refine ⟨⟨t + 1, KP, F', _, by omega, rfl, HQ', HK8, HBF8⟩, ?_⟩
         show nt + ns - (((t : Int)) + 1).toNat < nt + ns - ((t : Int)).toNat
         omega
     ·obtain ⟨s, rfl⟩ : ∃ s, t = nt + s := ⟨t - nt, by omega⟩
      have k2 : (nt : Int) ≤ ((nt + s : Nat) : Int) := by omega
      have k4 : (nt : Int) ≤ (nt : Int) + (s : Int) := by omega
      have k5 : IntKind.i64.wrap ((nt : Int) + (s : Int) - (nt : Int)) = (s : Int) := by rw [wrap_small (by omega) (by omega)]; omega
      have k6 : (nt : Int) + (s : Int) - (nt : Int) = (s : Int) := by omega
      have k7 : IntKind.i64.wrap (-1 - (s : Int)) = -1 - (s : Int) := wrap_small (by omega) (by omega)
      have k8 : (nt : Int) + (s : Int) < (nt : Int) + (ns : Int) := by omega
      have hsy : (symsX G)[nt + s]? = some (-1 - (s : Int)) := by
       have := X14.syms_sort (G := G) (s := s) (by rw [HNS.out]; omega)
       rw [HNT.out] at this
       exact this
      have HRS := hid (X14.rowS_succ (c := L) (ker := KER) hsy)
      obtain ⟨gk, ck, rfl, hck⟩ := HBF.out.ker (by omega) HQ'.out
      unfold kval at hck
      have cA0 : wr.cell? ⟨bA, 0, none⟩ = some (.slice (some ⟨gk, 0, none⟩) KP.length ck) := Lib.cell_of_heap HBF.out.boxA 0
      obtain ⟨we, ewe⟩ : ∃ we, wr.drew = we := ⟨_, rfl⟩
      have hbe : Below wr.heap.size wr we := by rw [← ewe]; exact (Below.refl _ _).drew
      have HBFe := hid (HBF.out.below hbe)
      have HS := hid (show ∀ w', Below we.heap.size we w' → (w'.cell? ⟨w.heap.size, 0, none⟩ = some (.slice to_ nt tc) ∧ w'.cell? ⟨w.heap.size, 1, none⟩ = some (ov) ∧ w'.cell? ⟨w.heap.size, 2, none⟩ = some (.slice so ns sc) ∧ w'.cell? ⟨w.heap.size, 3, none⟩ = some (pv) ∧ w'.cell? ⟨w.heap.size, 4, none⟩ = some (.int .i64 G.start) ∧ w'.cell? ⟨bA, 0, none⟩ = some (.slice (some ⟨gk, 0, none⟩) KP.length ck) ∧ w'.cell? ⟨gk, m, none⟩ = some (.slice (some ⟨q.1, 0, none⟩) q.2.2.length q.2.1)) from fun w' hC => by
       have hh := hbe.trans (hC.mono hbe.size)
       have nG := (hh.block _ (Array.getElem?_eq_some_iff.1 HBF.out.boxG).1).trans HBF.out.boxG
       exact ⟨Lib.cell_of_heap nG 0, Lib.cell_of_heap nG 1, Lib.cell_of_heap nG 2, Lib.cell_of_heap nG 3, Lib.cell_of_heap nG 4, cell_below hh cA0, cell_below hh hck⟩)
      have HH0 := HS.out we (Below.refl _ _)
      have hsv : stepV G q.2.2 (-1 - (s : Int)) = stepX G L (-1 - (s : Int)) := by
       show stepX G (closeV G q.2.2) (-1 - (s : Int)) = _
       rw [closeV_eq HVV.out, HL.out]
      have KS := hid (RStep_any (l := q.2.2) (by rw [HNT.out, HNS.out] at HGr; exact HGr.out.below HBFe.out.bel) (rowH_items (l := q.2.2) (g := q.1) (c := q.2.1) (HBFe.out.froz (q.1, q.2.2) (HBF.out.inF q (List.mem_of_getElem? HQ'.out))) (by omega)) (by omega) (-1 - (s : Int)))
      rw [hsv] at KS
      have hSl : (stepX G L (-1 - (s : Int))).length ≤ 1573 := by rw [← hsv]; exact X14.stepV_len G q.2.2 (-1 - (s : Int))
      obtain ⟨S, hS⟩ : ∃ S, stepX G L (-1 - (s : Int)) = S := ⟨_, rfl⟩
      rw [hS] at KS HRS hSl
      obtain ⟨TS, hTS⟩ : ∃ TS, (rowS G L KER (nt + s)).1 = TS := ⟨_, rfl⟩
      have HKR := hid (rows_kers (G := G) (c := L) HKK.out (nt + s))
      obtain ⟨KS', hKS⟩ : ∃ KS', (rowS G L KER (nt + s)).2 = KS' := ⟨_, rfl⟩
      rw [hTS, hKS] at HRS
      rw [hTS] at HBF HBFe hlen
      rw [hKS] at HKP hlen HKR
      obtain rfl : kers KP = KS' := HKP.out
      have hTSl : TS.length ≤ 1000 := by omega
      obtain ⟨ro, rc, rfl⟩ := own_shape HBF.out.row
      have hzl : (zints TS).length = TS.length := by unfold zints; rw [List.length_map]
      rw [hzl] at HBF HBFe
      clear hsv hsy hS hTS hKS hlen hck hbe
      go_wp2_with fail
      refine region_T 8 (fun w' => w'.cell? ⟨w.heap.size, 0, none⟩ = some (.slice to_ nt tc) ∧ w'.cell? ⟨w.heap.size, 1, none⟩ = some (ov) ∧ w'.cell? ⟨w.heap.size, 2, none⟩ = some (.slice so ns sc) ∧ w'.cell? ⟨w.heap.size, 3, none⟩ = some (pv) ∧ w'.cell? ⟨w.heap.size, 4, none⟩ = some (.int .i64 G.start) ∧ w'.cell? ⟨bA, 0, none⟩ = some (.slice (some ⟨gk, 0, none⟩) KP.length ck) ∧ w'.cell? ⟨gk, m, none⟩ = some (.slice (some ⟨q.1, 0, none⟩) q.2.2.length q.2.1)) (by kernel_rfl) (by rw [ewe]; exact HH0) (fun inv hHeld => ?_)
      rw [ewe]
      clear hHeld ewe
      iterate 7
       refine anyT_auto (v := ?_) rfl (by kernel_rfl) (fun _ _ _ h => h) (Or.inl ⟨by rfl, ?_⟩) HH0 inv (fun inv => ?_)
       rotate_left
       ·intro w hSw
        try dsimp only at hSw
        go_simp
        try with_reducible rfl
       simp only [Act.put, sjA, sj0, sjS]
      refine anyT_next (i := 7) (o := { dst := some 59, op := Go.Op.call { callee := Go.Callee.value (Go.Operand.func 89), args := #[Go.Operand.tmp 52, Go.Operand.tmp 57, Go.Operand.tmp 58], argTypes := #[27, 50, 61] }, type := 50, pos := "ref.go:133", after := #[{ on := 0, ground := Go.Ground.data }, { on := 5, ground := Go.Ground.data }, { on := 6, ground := Go.Ground.data }], guard := none }) (by kernel_rfl) rfl (by decide) inv (fun inv K' hK => ?_)
      go_simp
      refine KS.out.mono ?_
      rintro e w6 ⟨lv, rfl, hown, hb6⟩
      obtain ⟨lo, lc, rfl⟩ := own_shape hown
      have HIT := hid (own_items hown (by omega))
      have HOWN := hid hown
      have HB6 := hid hb6
      have HBF6 := hid (HBFe.out.below hb6)
      have HH1 := HS.out w6 hb6
      refine hK.out _ _ HH1 ?_
      clear hK K' HH0 hown hb6 KS
      try simp only [Act.put, sjA, sj0, sjS]
      refine anyT_one (i := 8) (o := { dst := some 10, op := Go.Op.assign (Go.Operand.tmp 59), type := 50, pos := "ref.go:133", after := #[{ on := 7, ground := Go.Ground.data }, { on := 7, ground := Go.Ground.chain }, { on := 0, ground := Go.Ground.phase }, { on := 1, ground := Go.Ground.phase }, { on := 2, ground := Go.Ground.phase }, { on := 3, ground := Go.Ground.phase }, { on := 4, ground := Go.Ground.phase }, { on := 5, ground := Go.Ground.phase }, { on := 6, ground := Go.Ground.phase }, { on := 7, ground := Go.Ground.phase }], guard := none }) (by kernel_rfl) rfl (fun K' hK => ?_)
      go_simp
      refine hK.out _ _ (fun h => absurd h (by decide)) ?_
      clear hK K'
      try simp only [Act.put, sjA, sj0, sjS]
      refine anyT_done (by kernel_rfl) ?_ _
      clear HH1 HS HBF cA0 c0 c2
      go_wp2_with fail
      go_loopw [11, 12] (fun t11 t12 wz => ∃ i : Nat, i ≤ KP.length ∧ t12 = .int .i64 (i : Int) ∧ ((t11 = .int .i64 (-1) ∧ Hid (∀ j, j < i → (kers KP)[j]? ≠ some S)) ∨ (∃ r : Nat, t11 = .int .i64 (r : Int) ∧ Hid ((∀ j, j < r → (kers KP)[j]? ≠ some S) ∧ (kers KP)[r]? = some S))) ∧ Hid (Below w6.heap.size w6 wz)) (fun _ t12 _ => KP.length - (RowKit.intOf t12).toNat)
      case atStart => exact ⟨0, Nat.zero_le _, rfl, .inl ⟨rfl, hid (fun j hj => absurd hj (Nat.not_lt_zero j))⟩, hid (Below.refl _ _)⟩
      case round =>
       obtain ⟨i, hin, rfl, HT, HZ⟩ := hrel
       have HBz := hid (HBF6.out.below HZ.out)
       have cA0 : wr.cell? ⟨bA, 0, none⟩ = some (.slice (some ⟨gk, 0, none⟩) KP.length ck) := Lib.cell_of_heap HBz.out.boxA 0
       rcases HT with ⟨rfl, HNF⟩ | ⟨r, rfl, HFO⟩
       ·by_cases hli : i < KP.length
        ·have i1 : (i : Int) < (KP.length : Int) := by omega
         have i0 : (0 : Int) ≤ (i : Int) := by omega
         obtain ⟨qi, hqi⟩ : ∃ qi, KP[i]? = some qi := ⟨_, List.getElem?_eq_getElem hli⟩
         obtain ⟨g2, c2, e2, hc2⟩ := HBz.out.ker (by omega) hqi
         injection e2 with e2 _ e3
         injection e2 with e2
         injection e2 with e2
         subst e2
         subst e3
         unfold kval at hc2
         have hki : (kers KP)[i]? = some qi.2.2 := by unfold kers; rw [List.getElem?_map, hqi]; rfl
         have hkl : qi.2.2.length ≤ 9223372036854775807 := by
          have h1 := HBz.out.rowK
          have h2 := HBz.out.froz (qi.1, qi.2.2) (HBz.out.inF qi (List.mem_of_getElem? hqi))
          have h3 := HLENS.out qi.2.2 (List.mem_of_getElem? hki)
          omega
         have KR := hid (RRow_any (l := qi.2.2) (rowH_items (l := qi.2.2) (g := qi.1) (c := qi.2.1) (HBz.out.froz (qi.1, qi.2.2) (HBz.out.inF qi (List.mem_of_getElem? hqi))) hkl) (HIT.out.below HZ.out))
         obtain ⟨be, hbe⟩ : ∃ be, decide (qi.2.2 = S) = be := ⟨_, rfl⟩
         rw [hbe] at KR
         have HBE := hid hbe
         have HKI := hid hki
         clear hqi hki hkl hbe
         go_wp2_with fail
         refine KR.out.mono ?_
         rintro e w7 ⟨rfl, hb7⟩
         have HZ7 := hid (HZ.out.trans (hb7.mono HZ.out.size))
         clear hb7 KR
         cases be
         ·have HN2 := hid (show ∀ j, j < i + 1 → (kers KP)[j]? ≠ some S from fun j hj => by
           by_cases e : j < i
           ·exact HNF.out j e
           ·obtain rfl : j = i := by omega
            rw [HKI.out]
            intro e
            exact of_decide_eq_false HBE.out (Option.some.inj e))
          go_wp2_with fail
          refine ⟨⟨i + 1, by omega, rfl, .inl ⟨rfl, HN2⟩, HZ7⟩, ?_⟩
          show KP.length - ((i : Int) + 1).toNat < KP.length - ((i : Int)).toNat
          omega
         ·have HN2 := hid (show (∀ j, j < i → (kers KP)[j]? ≠ some S) ∧ (kers KP)[i]? = some S from ⟨HNF.out, by rw [HKI.out, of_decide_eq_true HBE.out]⟩)
          go_wp2_with fail
          refine ⟨⟨i + 1, by omega, rfl, .inr ⟨i, rfl, HN2⟩, HZ7⟩, ?_⟩
          show KP.length - ((i : Int) + 1).toNat < KP.length - ((i : Int)).toNat
          omega
        ·have i1 : ¬ (i : Int) < (KP.length : Int) := by omega
         have hie : i = KP.length := by omega
         by_cases hS0 : 0 < S.length
         ·have z0 : (0 : Int) < (S.length : Int) := by omega
          have hSne : S ≠ [] := fun e => by rw [e] at hS0; exact absurd hS0 (by decide)
          have HNUM := hid (show numX S (kers KP) = ((KP.length : Int), kers KP ++ [S]) from by
           have := num_new hSne (ker := kers KP) (fun j hj => HNF.out j (by rw [kers_len] at hj; omega))
           rw [kers_len] at this
           exact this)
          obtain ⟨gl, rfl⟩ : ∃ gl, lo = some ⟨gl, 0, none⟩ := by
           obtain ⟨z, hz⟩ : ∃ z, S.length = z + 1 := ⟨S.length - 1, by omega⟩
           have h2 := HOWN.out
           rw [hz] at h2
           obtain ⟨g, c, e, _⟩ := own_shape1 h2
           injection e with e
           exact ⟨g, e⟩
          have HBFs := hid ((HBFe.out.step HOWN.out HB6.out).below HZ.out)
          obtain ⟨wp, ep⟩ : ∃ wp, wr.alloc (.cells #[.slice (some ⟨gl, 0, none⟩) S.length lc] 50) = wp := ⟨_, rfl⟩
          have hbp : Below wr.heap.size wr wp := by rw [← ep]; exact (Below.refl _ _).alloc (Nat.le_refl _) _
          have HNP := hid (show wp.heap[wr.heap.size]? = some (.cells #[.slice (some ⟨gl, 0, none⟩) S.length lc] 50 (0, 0)) from by rw [← ep]; exact new_block _ _)
          have HBFp := hid (HBFs.out.below hbp)
          have hdp := HBFp.out.size
          have HROWK := hid HBFp.out.rowK
          have hKm : (KP.map kval).length ≤ 1000000 := by rw [List.length_map]; omega
          clear hbp hie HIT HBz HBF6 hSne
          go_wp2_with (at_builtin; refine wpList_push1 rfl (.tmp 90) (.tmp 92) 35 50 rfl (.slice none 0 0) 24 Tryz.underlying35 info32 rfl (by decide) w.heap.size (.slice (some ⟨gk, 0, none⟩) KP.length ck) (KP.map kval) rfl HROWK.out wr.heap.size rfl (.slice (some ⟨gl, 0, none⟩) S.length lc) HNP.out rfl hKm hdp ?_)
          intro v7 w7 hown7 hg7 hat7
          obtain ⟨nA, hbf8⟩ := HBFp.out.push (List.mem_append_right _ (List.mem_singleton.2 rfl)) (by simpa using hown7) hg7 hat7
          have cA7 : w7.cell? ⟨bA, 0, none⟩ = some (.slice (some ⟨gk, 0, none⟩) KP.length ck) := Lib.cell_of_heap nA 0
          have fA7 := Lib.frozen_of_heap nA 0
          obtain ⟨o7, c7, rfl⟩ := own_shape hown7
          obtain ⟨w8, e8⟩ : ∃ w8, w7.setCell ⟨bA, 0, none⟩ (.slice o7 (KP.length + 1) c7) = w8 := ⟨_, rfl⟩
          rw [e8] at hbf8
          have HBFk := hid hbf8
          have HQ2 := hid (show (KP ++ [(gl, lc, S)])[m]? = some q from by rw [List.getElem?_append_left (List.getElem?_eq_some_iff.1 HQ'.out).1]; exact HQ'.out)
          have HNUM2 := hid (show numX S (kers KP) = ((KP.length : Int), kers (KP ++ [(gl, lc, S)])) from by rw [HNUM.out]; simp [kers])
          clear hown7 hg7 hat7 nA hbf8 ep cA0 HNUM HBFp HBFs
          obtain ⟨wq, eq⟩ : ∃ wq, w8.alloc (.cells #[.int .i64 ((KP.length : Int))] 3) = wq := ⟨_, rfl⟩
          have hbq : Below w8.heap.size w8 wq := by rw [← eq]; exact (Below.refl _ _).alloc (Nat.le_refl _) _
          have HNQ := hid (show wq.heap[w8.heap.size]? = some (.cells #[.int .i64 ((KP.length : Int))] 3 (0, 0)) from by rw [← eq]; exact new_block _ _)
          have HBFq := hid (HBFk.out.below hbq)
          have hdq := HBFq.out.size
          have hrow := HBFq.out.row
          have HROW := hid hrow
          have hzl2 : (zints TS).length ≤ 1000000 := by omega
          clear hbq hrow
          go_wp2_with (at_builtin; refine wpList_push1 rfl (.tmp 95) (.tmp 97) 43 3 rfl (.int .i64 0) 8 Tryz.underlying43 info3 rfl (by decide) w.heap.size (.slice ro TS.length rc) (zints TS) rfl HROW.out w8.heap.size rfl (.int .i64 ((KP.length : Int))) HNQ.out rfl hzl2 hdq ?_)
          intro v7 w7 hown7 hg7 hat7
          have HBF9 := hid (HBFq.out.number (ys := zints TS ++ [.int .i64 ((KP.length : Int))]) (by rw [List.length_append, hzl]; exact hown7) hg7 hat7)
          clear hown7 hg7 hat7 eq
          have HBF8 := hid (show RB w.heap.size w w7 bA w.heap.size bR #[.slice to_ nt tc, ov, .slice so ns sc, pv, .int .i64 G.start] _ nv (KP ++ [(gl, lc, S)]) N (F' ++ [(gl, S)]) v7 (zints (rowS G L KER (nt + s + 1)).1) from by
           rw [HRS.out, HNUM2.out]
           have e1 : zints (TS ++ [((KP.length : Int) : Int)]) = zints TS ++ [.int .i64 ((KP.length : Int))] := by simp [zints]
           rw [e1]
           exact HBF9.out)
          have HK8 := hid (show kers (KP ++ [(gl, lc, S)]) = (rowS G L KER (nt + s + 1)).2 from by rw [HRS.out, HNUM2.out])
          go_wp2_with fail
          refine ⟨⟨nt + s + 1, (KP ++ [(gl, lc, S)]), (F' ++ [(gl, S)]), _, by omega, by simp [Int.natCast_add], HQ2, HK8, HBF8⟩, ?_⟩
          show nt + ns - (((nt : Int) + (s : Int)) + 1).toNat < nt + ns - ((nt : Int) + (s : Int)).toNat
          omega
         ·have z0 : ¬ (0 : Int) < (S.length : Int) := by omega
          have HNUM := hid (show numX S (kers KP) = (-1, kers KP) from by
           obtain rfl : S = [] := List.eq_nil_of_length_eq_zero (by omega)
           exact num_nil _)
          clear hie
          obtain ⟨wq, eq⟩ : ∃ wq, wr.alloc (.cells #[.int .i64 (-1)] 3) = wq := ⟨_, rfl⟩
          have hbq : Below wr.heap.size wr wq := by rw [← eq]; exact (Below.refl _ _).alloc (Nat.le_refl _) _
          have HNQ := hid (show wq.heap[wr.heap.size]? = some (.cells #[.int .i64 (-1)] 3 (0, 0)) from by rw [← eq]; exact new_block _ _)
          have HBFq := hid (HBz.out.below hbq)
          have hdq := HBFq.out.size
          have hrow := HBFq.out.row
          have HROW := hid hrow
          have hzl2 : (zints TS).length ≤ 1000000 := by omega
          clear hbq hrow
          go_wp2_with (at_builtin; refine wpList_push1 rfl (.tmp 95) (.tmp 97) 43 3 rfl (.int .i64 0) 8 Tryz.underlying43 info3 rfl (by decide) w.heap.size (.slice ro TS.length rc) (zints TS) rfl HROW.out wr.heap.size rfl (.int .i64 (-1)) HNQ.out rfl hzl2 hdq ?_)
          intro v7 w7 hown7 hg7 hat7
          have HBF9 := hid (HBFq.out.number (ys := zints TS ++ [.int .i64 (-1)]) (by rw [List.length_append, hzl]; exact hown7) hg7 hat7)
          clear hown7 hg7 hat7 eq
          have HBF8 := hid (show RB w.heap.size w w7 bA w.heap.size bR #[.slice to_ nt tc, ov, .slice so ns sc, pv, .int .i64 G.start] _ nv KP N F' v7 (zints (rowS G L KER (nt + s + 1)).1) from by
           rw [HRS.out, HNUM.out]
           have e1 : zints (TS ++ [(-1 : Int)]) = zints TS ++ [.int .i64 (-1)] := by simp [zints]
           rw [e1]
           exact HBF9.out)
          have HK8 := hid (show kers KP = (rowS G L KER (nt + s + 1)).2 from by rw [HRS.out, HNUM.out])
          go_wp2_with fail
          refine ⟨⟨nt + s + 1, KP, F', _, by omega, by simp [Int.natCast_add], HQ', HK8, HBF8⟩, ?_⟩
          show nt + ns - (((nt : Int) + (s : Int)) + 1).toNat < nt + ns - ((nt : Int) + (s : Int)).toNat
          omega
       ·have p1 : ¬ (r : Int) < 0 := by omega
        have HNUM := hid (num_found HKR.out HFO.out.1 HFO.out.2)
        have hS0 : 0 < S.length := by
         have := HKR.out.some_ S (List.mem_of_getElem? HFO.out.2)
         cases S with
         | nil => exact absurd rfl this
         | cons a b => simp
        have z0 : (0 : Int) < (S.length : Int) := by omega
        by_cases hli : i < KP.length
        ·have i1 : (i : Int) < (KP.length : Int) := by omega
         obtain ⟨wq, eq⟩ : ∃ wq, wr.alloc (.cells #[.int .i64 ((r : Int))] 3) = wq := ⟨_, rfl⟩
         have hbq : Below wr.heap.size wr wq := by rw [← eq]; exact (Below.refl _ _).alloc (Nat.le_refl _) _
         have HNQ := hid (show wq.heap[wr.heap.size]? = some (.cells #[.int .i64 ((r : Int))] 3 (0, 0)) from by rw [← eq]; exact new_block _ _)
         have HBFq := hid (HBz.out.below hbq)
         have hdq := HBFq.out.size
         have hrow := HBFq.out.row
         have HROW := hid hrow
         have hzl2 : (zints TS).length ≤ 1000000 := by omega
         clear hbq hrow
         go_wp2_with (at_builtin; refine wpList_push1 rfl (.tmp 95) (.tmp 97) 43 3 rfl (.int .i64 0) 8 Tryz.underlying43 info3 rfl (by decide) w.heap.size (.slice ro TS.length rc) (zints TS) rfl HROW.out wr.heap.size rfl (.int .i64 ((r : Int))) HNQ.out rfl hzl2 hdq ?_)
         intro v7 w7 hown7 hg7 hat7
         have HBF9 := hid (HBFq.out.number (ys := zints TS ++ [.int .i64 ((r : Int))]) (by rw [List.length_append, hzl]; exact hown7) hg7 hat7)
         clear hown7 hg7 hat7 eq
         have HBF8 := hid (show RB w.heap.size w w7 bA w.heap.size bR #[.slice to_ nt tc, ov, .slice so ns sc, pv, .int .i64 G.start] _ nv KP N F' v7 (zints (rowS G L KER (nt + s + 1)).1) from by
          rw [HRS.out, HNUM.out]
          have e1 : zints (TS ++ [((r : Int) : Int)]) = zints TS ++ [.int .i64 ((r : Int))] := by simp [zints]
          rw [e1]
          exact HBF9.out)
         have HK8 := hid (show kers KP = (rowS G L KER (nt + s + 1)).2 from by rw [HRS.out, HNUM.out])
         go_wp2_with fail
         refine ⟨⟨nt + s + 1, KP, F', _, by omega, by simp [Int.natCast_add], HQ', HK8, HBF8⟩, ?_⟩
         show nt + ns - (((nt : Int) + (s : Int)) + 1).toNat < nt + ns - ((nt : Int) + (s : Int)).toNat
         omega
        ·have i1 : ¬ (i : Int) < (KP.length : Int) := by omega
         obtain ⟨wq, eq⟩ : ∃ wq, wr.alloc (.cells #[.int .i64 ((r : Int))] 3) = wq := ⟨_, rfl⟩
         have hbq : Below wr.heap.size wr wq := by rw [← eq]; exact (Below.refl _ _).alloc (Nat.le_refl _) _
         have HNQ := hid (show wq.heap[wr.heap.size]? = some (.cells #[.int .i64 ((r : Int))] 3 (0, 0)) from by rw [← eq]; exact new_block _ _)
         have HBFq := hid (HBz.out.below hbq)
         have hdq := HBFq.out.size
         have hrow := HBFq.out.row
         have HROW := hid hrow
         have hzl2 : (zints TS).length ≤ 1000000 := by omega
         clear hbq hrow
         go_wp2_with (at_builtin; refine wpList_push1 rfl (.tmp 95) (.tmp 97) 43 3 rfl (.int .i64 0) 8 Tryz.underlying43 info3 rfl (by decide) w.heap.size (.slice ro TS.length rc) (zints TS) rfl HROW.out wr.heap.size rfl (.int .i64 ((r : Int))) HNQ.out rfl hzl2 hdq ?_)
         intro v7 w7 hown7 hg7 hat7
         have HBF9 := hid (HBFq.out.number (ys := zints TS ++ [.int .i64 ((r : Int))]) (by rw [List.length_append, hzl]; exact hown7) hg7 hat7)
         clear hown7 hg7 hat7 eq
         have HBF8 := hid (show RB w.heap.size w w7 bA w.heap.size bR #[.slice to_ nt tc, ov, .slice so ns sc, pv, .int .i64 G.start] _ nv KP N F' v7 (zints (rowS G L KER (nt + s + 1)).1) from by
          rw [HRS.out, HNUM.out]
          have e1 : zints (TS ++ [((r : Int) : Int)]) = zints TS ++ [.int .i64 ((r : Int))] := by simp [zints]
          rw [e1]
          exact HBF9.out)
         have HK8 := hid (show kers KP = (rowS G L KER (nt + s + 1)).2 from by rw [HRS.out, HNUM.out])
         go_wp2_with fail
         refine ⟨⟨nt + s + 1, KP, F', _, by omega, by simp [Int.natCast_add], HQ', HK8, HBF8⟩, ?_⟩
         show nt + ns - (((nt : Int) + (s : Int)) + 1).toNat < nt + ns - ((nt : Int) + (s : Int)).toNat
         omega
    ·have t3 : ¬ (t : Int) < (nt : Int) + (ns : Int) := by omega
     have htt : t = nt + ns := by omega
     subst htt
     have t3a : ¬ nt + ns < nt + ns := by omega
     have hlenR : (rowS G L KER (nt + ns)).1.length = nt + ns := by
      have h1 := (X14.rowX_len G L (symsX G) ([], KER)).1
      rw [← X14.rowS_all, HSL.out] at h1
      simpa using h1
     have HKF := hid (show kers KP = (iterB G (m + 1)).ker from HKP.out.trans (by rw [HSU.out.1, HSL.out]))
     obtain ⟨R, hR⟩ : ∃ R, (rowS G L KER (nt + ns)).1 = R := ⟨_, rfl⟩
     have HNX := hid (show (iterB G (m + 1)).nx = nxts N ++ [R] from by rw [HSU.out.2, HSL.out, hR, HJ.out.2.2])
     rw [hR] at HBF hlenR
     have hzl : (zints R).length = R.length := by unfold zints; rw [List.length_map]
     have hrow := HBF.out.row
     rw [hzl] at hrow
     obtain ⟨g, rc, rfl⟩ : ∃ g rc, u7 = .slice (some ⟨g, 0, none⟩) R.length rc := by
      obtain ⟨z, hz⟩ : ∃ z, R.length = z + 1 := ⟨R.length - 1, by omega⟩
      rw [hz] at hrow
      obtain ⟨g, c, e, _⟩ := own_shape1 hrow
      exact ⟨g, c, by rw [hz]; exact e⟩
     have hNl : N.length = m := by
      have h1 := congrArg List.length HJ.out.2.2
      rw [(X14.iterB_at G m).2] at h1
      unfold nxts at h1
      rw [List.length_map] at h1
      exact h1
     have hrN := HBF.out.rowN
     rw [List.length_map] at hrN
     obtain ⟨no, nc, rfl⟩ := own_shape hrN
     have hrK := HBF.out.rowK
     rw [List.length_map] at hrK
     obtain ⟨ko2, kc2, rfl⟩ := own_shape hrK
     have cA1 : wr.cell? ⟨bA, 1, none⟩ = some (.slice no N.length nc) := Lib.cell_of_heap HBF.out.boxA 1
     obtain ⟨wq, eq⟩ : ∃ wq, wr.alloc (.cells #[.slice (some ⟨g, 0, none⟩) R.length rc] 43) = wq := ⟨_, rfl⟩
     have hbq : Below wr.heap.size wr wq := by rw [← eq]; exact (Below.refl _ _).alloc (Nat.le_refl _) _
     have HNQ := hid (show wq.heap[wr.heap.size]? = some (.cells #[.slice (some ⟨g, 0, none⟩) R.length rc] 43 (0, 0)) from by rw [← eq]; exact new_block _ _)
     have HBFq := hid (HBF.out.below hbq)
     have hdq := HBFq.out.size
     have HROWN := hid HBFq.out.rowN
     have hNm : (N.map nval).length ≤ 1000000 := by rw [List.length_map]; omega
     clear hrow hrN hrK hbq hR hlt2 HBF hlenR hNl hzl hlen htn
     go_wp2_with (at_builtin; refine wpList_push1 rfl (.tmp 100) (.tmp 102) 36 43 rfl (.slice none 0 0) 24 Tryz.underlying36 info58 rfl (by decide) w.heap.size (.slice no N.length nc) (N.map nval) rfl HROWN.out wr.heap.size rfl (.slice (some ⟨g, 0, none⟩) R.length rc) HNQ.out rfl hNm hdq ?_)
     intro v7 w7 hown7 hg7 hat7
     obtain ⟨nA, hbf8⟩ := HBFq.out.next_ (by simpa using hown7) hg7 hat7
     have cA7 : w7.cell? ⟨bA, 1, none⟩ = some (.slice no N.length nc) := Lib.cell_of_heap nA 1
     have fA7 := Lib.frozen_of_heap nA 1
     obtain ⟨o7, c7, rfl⟩ := own_shape hown7
     obtain ⟨w8, e8⟩ : ∃ w8, w7.setCell ⟨bA, 1, none⟩ (.slice o7 (N.length + 1) c7) = w8 := ⟨_, rfl⟩
     rw [e8] at hbf8
     have HBF8 := hid hbf8
     have cA8 : w8.cell? ⟨bA, 0, none⟩ = some (.slice ko2 KP.length kc2) := Lib.cell_of_heap hbf8.boxA 0
     have nR := hbf8.boxR
     have HNXN := hid (show nxts (N ++ [(g, rc, R)]) = (iterB G (m + 1)).nx from by rw [HNX.out]; simp [nxts])
     clear hown7 hg7 hat7 nA hbf8 eq cA1
     by_cases hmany : 2000 < KP.length
     ·have hm1 : (2000 : Int) < (KP.length : Int) := by omega
      have HMANY := hid (show BuiltMany G m from ⟨HJ.out.1, by rw [HKE.out, hker0]; exact hlt, by rw [← HKF.out, kers_len]; omega⟩)
      have r0 := Lib.cell_of_heap nR 0
      have q0 := Lib.frozen_of_heap nR 0
      obtain ⟨wa, ea⟩ : ∃ wa, w8.setCell ⟨bR, 0, none⟩ (.slice none 0 0) = wa := ⟨_, rfl⟩
      have na : wa.heap[bR]? = some (.cells #[.slice none 0 0, .slice none 0 0] 38 (0, 0)) := by rw [← ea]; exact heap_setCell_same _ _ 0 _ 38 _ nR
      have ra := Lib.cell_of_heap na 1
      have qa := Lib.frozen_of_heap na 1
      obtain ⟨wb, eb⟩ : ∃ wb, wa.setCell ⟨bR, 1, none⟩ (.slice none 0 0) = wb := ⟨_, rfl⟩
      have HNB := hid (show wb.heap[bR]? = some (.cells #[.slice none 0 0, .slice none 0 0] 38 (0, 0)) from by rw [← eb]; exact heap_setCell_same _ _ 1 _ 38 _ na)
      have hle : w.heap.size ≤ bR := (HBF8.out.foot.lt 7 _ rfl bR (List.mem_singleton.2 rfl)).1
      have HFIN := hid (show Below w.heap.size w wb from by
       rw [← eb, ← ea]
       exact (HBF8.out.bel.setCell hle _).setCell hle _)
      clear na nR
      go_wp2_with fail
      refine bodyPost_ret (v := .tuple #[noAut, .int .i64 4]) (results55 rfl _ _ bR _ _ 4 rfl rfl HNB.out) rfl ?_
      exact ⟨HFIN.out, .inr ⟨HVV.out, m, .inl ⟨HMANY.out, rfl⟩⟩⟩
     ·have hm1 : ¬ (2000 : Int) < (KP.length : Int) := by omega
      have hm2 : KP.length ≤ 2000 := by omega
      have HBS := hid (show Built G (m + 1) from HJ.out.1.succ (by rw [HKE.out, hker0]; exact hlt) (by rw [← HKF.out, kers_len]; exact hm2))
      clear nR
      go_wp2_with fail
      refine ⟨⟨m + 1, KP, _, F', _, _, rfl, hid ⟨HBS.out, HKF.out, HNXN.out⟩, by rw [HNT.out, HNS.out]; exact HBF8⟩, ?_⟩
      show 2001 - ((m : Int) + 1).toNat < 2001 - ((m : Int)).toNat
      omega
  ·have t1 : ¬ (m : Int) < (K.length : Int) := by omega
   have HOK := hid (show BuiltOk G m from ⟨HJ.out.1, by rw [← HJ.out.2.1, kers_len]; exact hlt⟩)
   have hrN := HBF.out.rowN
   rw [List.length_map] at hrN
   obtain ⟨no, nc, rfl⟩ := own_shape hrN
   have cA1 : wr.cell? ⟨bA, 1, none⟩ = some (.slice no N.length nc) := Lib.cell_of_heap HBF.out.boxA 1
   have nR := HBF.out.boxR
   have r0 := Lib.cell_of_heap nR 0
   have q0 := Lib.frozen_of_heap nR 0
   obtain ⟨wa, ea⟩ : ∃ wa, wr.setCell ⟨bR, 0, none⟩ (.slice ko K.length kc) = wa := ⟨_, rfl⟩
   have na : wa.heap[bR]? = some (.cells #[.slice ko K.length kc, .slice none 0 0] 38 (0, 0)) := by rw [← ea]; exact heap_setCell_same _ _ 0 _ 38 _ nR
   have ra := Lib.cell_of_heap na 1
   have qa := Lib.frozen_of_heap na 1
   obtain ⟨wb, eb⟩ : ∃ wb, wa.setCell ⟨bR, 1, none⟩ (.slice no N.length nc) = wb := ⟨_, rfl⟩
   have HNB := hid (show wb.heap[bR]? = some (.cells #[.slice ko K.length kc, .slice no N.length nc] 38 (0, 0)) from by rw [← eb]; exact heap_setCell_same _ _ 1 _ 38 _ na)
   have f1 := foot_cell (k := 0) (v := .slice ko K.length kc) HBF.out.foot 7 rfl
   have f2 := foot_cell (k := 1) (v := .slice no N.length nc) f1 7 rfl
   rw [ea, eb] at f2
   have HFIN := hid f2.bel
   have hNl : N.length = m := by
    have h1 := congrArg List.length HJ.out.2.2
    rw [(X14.iterB_at G m).2] at h1
    unfold nxts at h1
    rw [List.length_map] at h1
    exact h1
   have hKm : K.length = m := by rw [← kers_len, HJ.out.2.1]; exact HOK.out.inv.2.2
   have haut := aut_of_r (B := w.heap.size) (F := F) (f2.ok 1 _ rfl) (f2.ok 2 _ rfl) (f2.ok 3 _ rfl) (f2.ok 4 _ rfl) HBF.out.inF (by omega) (by omega) (fun k hk => by
    have := X14.iter_len HVV.out m k (by rw [← HJ.out.2.1]; exact hk)
    omega) (fun R hR => by
    have hR2 : R ∈ (iterB G m).nx := by rw [← HJ.out.2.2]; exact hR
    obtain ⟨i, hi⟩ := List.mem_iff_getElem?.1 hR2
    have h3 := HOK.out.inv.1.rl i R hi
    rw [X14.symsX_len] at h3
    have h4 := valid_parts HVV.out
    exact ⟨by omega, X14.nx_range HOK.out R hR2⟩)
   rw [HJ.out.2.1, HJ.out.2.2] at haut
   have HAUT := hid haut
   clear hrN hrK na nR f1 f2 haut hNl hKm
   go_wp2_with fail
   refine bodyPost_ret (v := .tuple #[.agg #[.slice ko K.length kc, .slice no N.length nc], .int .i64 0]) (results55 rfl _ _ bR _ _ 0 rfl rfl HNB.out) rfl ?_
   exact ⟨HFIN.out, .inr ⟨HVV.out, m, .inr ⟨HOK.out, _, rfl, HAUT.out⟩⟩⟩
end Go.Proofs.YticmnfmijdgmbaaGreatDoor
