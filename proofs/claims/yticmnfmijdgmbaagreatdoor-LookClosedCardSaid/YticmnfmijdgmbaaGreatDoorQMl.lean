/- One pass over a grammar's productions, that tells what follows. -/
import Derived.Test.YticmnfmijdgmbaaGreatDoorQHy
import Derived.Test.YticmnfmijdgmbaaGreatDoorGc
namespace Go.Proofs.YticmnfmijdgmbaaGreatDoor.S13
open Go Go.RowKit Go.Lib Go.Joins
theorem of63 (w : World) (b : Nat) (h : w.cell? ⟨b, 0, none⟩ = some (.int .i64 63)) : Calls Tryz.prog 31 #[.slice (some ⟨b, 0, none⟩) 1 1] w fun e w' => e = .returned (u64 (bitN 63)) ∧ w = w' := by
 have := Of_some b 0 1 [63] w (by decide) (fun i hi => by
  match i, hi with
  | 0, _ => simpa using h)
 rw [show ofN [63] = bitN 63 from by decide] at this
 exact this
set_option maxRecDepth 100000 in
set_option maxHeartbeats 4000000 in
theorem passW {G : GD} {gv tv ov sv pv : Value} {tf : Nat → Nat → Value} {rv : Nat → Value} {w0 W : World} {Bg Br Bv eb fb lb Bl Bj Bc : Nat} {E : List Bool} {F L : List Nat} (hG : GrAt w0 gv G tv ov sv pv tf rv) (hV : validB G = true)
  (hbox3 : w0.cell? ⟨Bg, 3, none⟩ = some pv) (hbox4 : w0.cell? ⟨Bg, 4, none⟩ = some (.int .i64 G.start)) (hE : w0.heap[eb]? = some (.cells (E.map Value.bool).toArray 4)) (hEl : E.length = G.sorts.length)
  (hF : w0.heap[fb]? = some (.cells (sets F) 69)) (hFl : F.length = G.sorts.length) (hFt : ∀ x ∈ F, x < top)
  (hBr : w0.heap[Br]? = some (.cells #[.int .i64 (G.terms.length : Int), .slice (some ⟨eb, 0, none⟩) G.sorts.length G.sorts.length, .slice (some ⟨fb, 0, none⟩) G.sorts.length G.sorts.length] 130))
  (hBv : W.heap[Bv]? = some (.cells #[.slice (some ⟨lb, 0, none⟩) G.sorts.length G.sorts.length] 46)) (h0 : Below w0.heap.size w0 W)
  (hS : GStS W lb Bl Bj Bc G.sorts.length L false) (hL : ∀ x ∈ L, x < top) (g1 : w0.heap.size ≤ lb) (g2 : w0.heap.size ≤ Bc) :
  Calls Tryz.prog 71 #[.func (.func 113) #[] #[.pointer (some ⟨Bj, 0, none⟩), .pointer (some ⟨Bl, 0, none⟩), .pointer (some ⟨Bc, 0, none⟩)], .pointer (some ⟨Bg, 0, none⟩), .pointer (some ⟨Br, 0, none⟩), .pointer (some ⟨Bv, 0, none⟩)] W fun e W' =>
   (∃ v, e = .returned v) ∧ ∃ L' c, GStS W' lb Bl Bj Bc G.sorts.length L' c ∧ Far (fun k => k = lb ∨ k = Bc) W W' ∧ PassedS (evW G.terms.length E F G.start G.prods) (evW G.terms.length E F G.start G.prods) L L' c := by
 have hp := hG.prods
 obtain ⟨pa, pc, rfl, hpn, hp⟩ := hp
 have HV := hid hV
 obtain ⟨n60, s60, p120⟩ := valid_few hV
 obtain ⟨st0, st1⟩ := valid_start hV
 have hwf0 : PassedS (evW G.terms.length E F G.start G.prods) [] L L false := passedS_nil _ hL
 have hlen := hS.len
 have hst1 := passedS_step hwf0 (e := (G.start.toNat, fun _ => bitN 63)) (List.mem_cons_self) (by rw [hlen]; simp only; omega) (by show bitN 63 < top; decide)
 obtain ⟨so0, hso0⟩ : ∃ n : Nat, G.start = n := ⟨G.start.toNat, by omega⟩
 rw [hso0] at hbox4
 have hto0 : G.start.toNat = so0 := by omega
 have HST1 : Hid (PassedS (evW G.terms.length E F G.start G.prods) [(G.start.toNat, fun _ => bitN 63)] L (L.set so0 (L.getD so0 0 ||| bitN 63)) ((L.getD so0 0 ||| bitN 63) != L.getD so0 0)) := by
  rw [← hto0]; exact hst1
 have hs0n : so0 < G.sorts.length := by omega
 clear hst1 hto0 hwf0
 generalize hnp : G.prods.length = np at *
 generalize hns : G.sorts.length = ns at *
 generalize hnt : G.terms.length = nt at *
 have HS0 := hid hS
 have hb3 := cell_below h0 hbox3
 have hb4 := cell_below h0 hbox4
 have km0 : Hid (∀ W', Below W.heap.size W W' → Calls Tryz.prog 113 #[.int .i64 (so0 : Int), u64 (bitN 63), .pointer (some ⟨Bj, 0, none⟩), .pointer (some ⟨Bl, 0, none⟩), .pointer (some ⟨Bc, 0, none⟩)] W' fun e W'' =>
   (∃ v, e = .returned v) ∧ GStS W'' lb Bl Bj Bc ns (L.set so0 (L.getD so0 0 ||| bitN 63)) (false || ((L.getD so0 0 ||| bitN 63) != L.getD so0 0)) ∧ Far (fun k => k = lb ∨ k = Bc) W W'') :=
  fun W' hb => (moreS_any (hS.keep hb) so0 hs0n (bitN 63) (by decide) hL).mono fun e W'' ⟨h1, h2, h3⟩ => ⟨h1, h2, (Far.ofBelow hb).trans h3⟩
 simp only [Bool.false_or] at km0
 have hbg : Bg < w0.heap.size := World.block_lt_of_cell? w0 _ hbox4
 have nBg : ¬ (Bg = lb ∨ Bg = Bc) := by omega
 have hbrl := (Array.getElem?_eq_some_iff.1 hBr).1
 have nBr : ¬ (Br = lb ∨ Br = Bc) := by omega
 have nBv : ¬ (Bv = lb ∨ Bv = Bc) := by
  have h1 := HS0.out.list
  have h2 := HS0.out.chg
  rintro (rfl | rfl)
  ·rw [hBv] at h1; simp at h1
  ·rw [hBv] at h2; simp at h2
 have hlb := (Array.getElem?_eq_some_iff.1 hS.list).1
 have hbc := (Array.getElem?_eq_some_iff.1 hS.chg).1
 clear hV
 go_enter Tryz.func71, Tryz.ntmps71
 go_wp2_with fail
 go_region_held3 (fun w' => w'.cell? ⟨Bg, 4, none⟩ = some (.int .i64 (so0 : Int)))
  (first | go_keep | exact hF6.cell hb4 nBg)
  ((first | (go_at_call 31; refine (of63 _ _ (by simp)).mono ?_; rintro e w5 ⟨rfl, rfl⟩) | (go_at_call 113; refine (km0.out _ (by repeat' (first | exact Below.refl _ _ | refine Below.drew ?_ | refine below_al ?_ _))).mono ?_; rintro e w6 ⟨⟨v, rfl⟩, hS6, hF6⟩)))
 have b3 := hF6.cell hb3 nBg
 go_wp2_with fail
 go_loopw [18] (fun i wr => ∃ (j : Nat) (Lj : List Nat) (c : Bool), j ≤ np ∧ i = .int .i64 (j : Int) ∧ GStS wr lb Bl Bj Bc ns Lj c ∧ Far (fun k => k = lb ∨ k = Bc) W wr ∧ PassedS (evW nt E F G.start G.prods) ((G.start.toNat, fun _ => bitN 63) :: evAll nt E F (G.prods.take j)) L Lj c) (fun i _ => np - (RowKit.intOf i).toNat)
 case atStart => exact ⟨0, _, _, by omega, rfl, hS6, hF6, by rw [List.take_zero]; exact HST1.out⟩
 case round =>
  clear hS6 hF6 b3
  obtain ⟨j, Lj, c, hj, rfl, hS', hF', hP⟩ := hrel
  have hbw : Below w0.heap.size w0 wr := h0.trans (hF'.toBelow h0.size (by rintro k (rfl | rfl) <;> omega))
  by_cases hlt : j < np
  ·obtain ⟨b, off, rfl, hc⟩ := hp (by omega)
   obtain ⟨d0, d1, d2, d3⟩ := hc j hlt
   replace d0 := cell_below hbw d0
   replace d1 := cell_below hbw d1
   replace d2 := cell_below hbw d2
   replace d3 := cell_below hbw d3
   obtain ⟨v1, v2, v3, v4⟩ := prodB_sortNat (valid_prod HV.out (k := j) (by omega))
   rw [hns] at v2 v4
   have hR := hG.rights j (by omega)
   have hcap := hG.caps j (by omega)
   have hmem := fun (k : Nat) (hk : k < (G.prods.getD j default).rs.length) (hn : (G.prods.getD j default).rs.getD k 0 < 0) => evSym_mem (nt := nt) (E := E) (F := F) (ps := G.prods) (st := G.start) (j := j) (k := k) (by omega) hk hn
   have hsnoc := evAll_snoc (nt := nt) (E := E) (F := F) (ps := G.prods) (j := j) (by omega)
   have hsz := hbw.size
   clear hc
   generalize hPP : G.prods.getD j default = P at *
   clear hPP
   obtain ⟨⟨ra, rc, hrv, hrn, hrc⟩, hri⟩ := hR
   have hcap := hcap _ _ _ hrv
   rw [hrv] at d2
   obtain ⟨so, hso⟩ : ∃ so : Nat, P.sort = so := ⟨P.sort.toNat, by omega⟩
   rw [hso] at d1
   have hto : P.sort.toNat = so := by omega
   have hsn : so < ns := by omega
   have i0 : (0 : Int) ≤ (j : Int) := by omega
   have i1 : (j : Int) < (np : Int) := by omega
   obtain ⟨w2, hw2⟩ : ∃ w2, w2 = wr.alloc (.cells #[.string P.lab, .int .i64 (so : Int), .slice ra P.rs.length rc, .int .i64 P.cls] 71) := ⟨_, rfl⟩
   have hb2 : Below wr.heap.size wr w2 := by rw [hw2]; exact (Below.refl _ _).alloc (Nat.le_refl _) _
   have p1 : w2.cell? ⟨wr.heap.size, 1, none⟩ = some (.int .i64 (so : Int)) := by rw [hw2, World.cell?_alloc_mark]; rfl
   have p2 : w2.cell? ⟨wr.heap.size, 2, none⟩ = some (.slice ra P.rs.length rc) := by rw [hw2, World.cell?_alloc_mark]; rfl
   have hS2 := hS'.keep hb2
   have hF2 : Far (fun k => k = lb ∨ k = Bc) W w2 := hF'.trans (Far.ofBelow hb2)
   have hlb2 := (Array.getElem?_eq_some_iff.1 hS'.list).1
   have hbc2 := (Array.getElem?_eq_some_iff.1 hS'.chg).1
   have HS2 := hid hS2
   have HF2 := hid hF2
   have hP0 : PassedS (evW nt E F G.start G.prods) ((G.start.toNat, fun _ => bitN 63) :: (evAll nt E F (G.prods.take j) ++ evUpto nt E F P 0)) L Lj c := by
    rw [show evUpto nt E F P 0 = [] from rfl, List.append_nil]; exact hP
   have HP0 := hid hP0
   have HSN := hid hsnoc
   have HMEM := hid hmem
   have HSO := hid hso
   have HTO := hid hto
   have HRC := hid hrc
   have HRI := hid hri
   have HV4 := hid v4
   have b0w : Below w0.heap.size w0 w2 := hbw.trans (hb2.mono hsz)
   clear hP hP0 hsnoc hmem hso hto hrc hri v4 v1 v2 v3 hrv hS' hF' hS2 hF2
   generalize hrl : P.rs.length = rl at *
   have HRL := hid hrl
   clear hrl
   go_wp2_with fail
   rw [← hw2]
   clear hw2 d0 d1 d2 d3
   generalize hpb : wr.heap.size = pb at *
   have nP : ¬ (pb = lb ∨ pb = Bc) := by omega
   clear hpb
   go_loopw [25] (fun i wq => ∃ (q : Nat) (Lq : List Nat) (cq : Bool), q ≤ rl ∧ i = .int .i64 (q : Int) ∧ GStS wq lb Bl Bj Bc ns Lq cq ∧ Far (fun k => k = lb ∨ k = Bc) w2 wq ∧
    PassedS (evW nt E F G.start G.prods) ((G.start.toNat, fun _ => bitN 63) :: (evAll nt E F (G.prods.take j) ++ evUpto nt E F P q)) L Lq cq) (fun i _ => rl - (RowKit.intOf i).toNat)
   case atStart => exact ⟨0, _, _, by omega, rfl, HS2.out, Far.refl _ _, HP0.out⟩
   case round =>
    obtain ⟨q, Lq, cq, hq, rfl, hSq, hFq, hPq⟩ := hrel
    by_cases hql : q < rl
    ·obtain ⟨rb, ro, rfl, hcc⟩ := HRC.out (by have := HRL.out; omega)
     have bqw : Below w0.heap.size w0 wr := b0w.trans (hFq.toBelow b0w.size (by rintro k (rfl | rfl) <;> omega))
     have g3 := cell_below bqw (hcc q (by have := HRL.out; omega))
     have hdrop := hid (cut_at (c := rc) (fun i hi => cell_below bqw (hcc i (by have := HRL.out; omega))) HRL.out HRI.out hrn hcap (q + 1))
     have hsv := hid (HV4.out (P.rs.getD q 0) (mem_getD (by have := HRL.out; omega)))
     have hrange := hid (HRI.out (P.rs.getD q 0) (mem_getD (by have := HRL.out; omega)))
     have HM := hid (HMEM.out q hql)
     have HY := hid (evUpto_yes (nt := nt) (E := E) (F := F) (p := P) (k := q))
     have HN := hid (evUpto_no (nt := nt) (E := E) (F := F) (p := P) (k := q))
     have q1 : (q : Int) < (rl : Int) := by omega
     have p1q := hFq.cell p1 nP
     have p2q := hFq.cell p2 nP
     clear hcc
     generalize P.rs.getD q 0 = s at *
     by_cases hs0 : 0 ≤ s
     ·have HPq : Hid (PassedS (evW nt E F G.start G.prods) ((G.start.toNat, fun _ => bitN 63) :: (evAll nt E F (G.prods.take j) ++ evUpto nt E F P (q + 1))) L Lq cq) := by
       rw [HN.out (by omega)]; exact hPq
      have hFF := hid hFq
      clear hPq hFq
      have hs1 : ¬ (s < 0) := by omega
      go_wp2
      exact ⟨⟨q + 1, _, _, by omega, by go_num, hSq, hFF.out, HPq.out⟩, by simp [RowKit.intOf]; omega⟩
     ·have hs1 : s < 0 := by omega
      obtain ⟨u1, u2⟩ : -9223372036854775808 ≤ s ∧ -1 - s < ns := by
       have := hsv.out
       have := hrange.out
       omega
      obtain ⟨t, ht⟩ : ∃ t : Nat, -1 - s = (t : Int) := ⟨(-1 - s).toNat, by omega⟩
      have htn : t < ns := by omega
      have hlenq := hSq.len
      have hLt := hPq.2.2.1
      have hyt := getD_lt hLt so
      have HYs := HY.out hs1
      have hm' := HM.out hs1
      rw [HTO.out, show (-1 - s).toNat = t by omega] at hm' HYs
      have hx := ofRow_lt nt E hFt (P.rs.drop (q + 1)) hyt
      have hst := passedS_step hPq hm' (by simp only; omega) hx
      rw [List.cons_append, List.append_assoc, ← HYs] at hst
      have HST : Hid (PassedS (evW nt E F G.start G.prods) ((G.start.toNat, fun _ => bitN 63) :: (evAll nt E F (G.prods.take j) ++ evUpto nt E F P (q + 1))) L (Lq.set t (Lq.getD t 0 ||| ofRow nt E F (P.rs.drop (q + 1)) (Lq.getD so 0)))
       (cq || (Lq.getD t 0 ||| ofRow nt E F (P.rs.drop (q + 1)) (Lq.getD so 0)) != Lq.getD t 0)) := hst
      have z0 := cell_of_block (heap_keep bqw hBr) 0
      have z1 := cell_of_block (heap_keep bqw hBr) 1
      have z2 := cell_of_block (heap_keep bqw hBr) 2
      have z3 := (HF2.out.trans hFq).cell (cell_of_block hBv 0) nBv
      have z4 := cell_sets hSq.list (i := so) (by omega)
      simp only [List.getElem?_toArray, List.getElem?_cons_zero, List.getElem?_cons_succ] at z0 z1 z2 z3
      have kof : Hid (∀ (W' : World), Below wr.heap.size wr W' → Calls Tryz.prog 68 #[rowsV nt eb fb ns, cutV rb ro rl rc (q + 1), u64 (Lq.getD so 0)] W' fun e W'' => e = .returned (u64 (ofRow nt E F (P.rs.drop (q + 1)) (Lq.getD so 0))) ∧ Below wr.heap.size wr W'') :=
       fun W' hb => (of_any (nt := nt) (heap_keep hb (heap_keep bqw hE)) (heap_keep hb (heap_keep bqw hF)) hEl hFl hFt hyt (hdrop.out.mono hb)).mono fun e W'' ⟨h1, h2⟩ => ⟨h1, hb.trans (h2.mono hb.size)⟩
      have kmo : Hid (∀ (W' : World), Below wr.heap.size wr W' → Calls Tryz.prog 113 #[.int .i64 (t : Int), u64 (ofRow nt E F (P.rs.drop (q + 1)) (Lq.getD so 0)), .pointer (some ⟨Bj, 0, none⟩), .pointer (some ⟨Bl, 0, none⟩), .pointer (some ⟨Bc, 0, none⟩)] W' fun e W'' =>
        (∃ v, e = .returned v) ∧ GStS W'' lb Bl Bj Bc ns (Lq.set t (Lq.getD t 0 ||| ofRow nt E F (P.rs.drop (q + 1)) (Lq.getD so 0))) (cq || (Lq.getD t 0 ||| ofRow nt E F (P.rs.drop (q + 1)) (Lq.getD so 0)) != Lq.getD t 0) ∧ Far (fun k => k = lb ∨ k = Bc) wr W'') :=
       fun W' hb => (moreS_any (hSq.keep hb) t htn _ hx hLt).mono fun e W'' ⟨h1, h2, h3⟩ => ⟨h1, h2, (Far.ofBelow hb).trans h3⟩
      have kcut := run_cut rb ro rl rc q (by omega)
      have i5 : IntKind.i64.wrap (-1 - s) = (t : Int) := by rw [IntKind.wrap_i64]; omega
      have i6 : IntKind.i64.wrap ((q : Int) + 1) = (q : Int) + 1 := by rw [IntKind.wrap_i64]; omega
      have i7 : (0 : Int) ≤ (so : Int) := by omega
      have i8 : (so : Int) < (ns : Int) := by omega
      have HFq := hid hFq
      clear hst hm' HYs hPq hFq hsv hrange HM HY HN hdrop
      generalize hxx : ofRow nt E F (P.rs.drop (q + 1)) (Lq.getD so 0) = x at *
      generalize hyy : Lq.getD so 0 = y at *
      generalize cutV rb ro rl rc (q + 1) = cv at *
      clear hxx hyy
      have ht2 := hid ht
      clear ht
      go_wp2_with fail
      refine region_T 15 (fun w' => w'.cell? ⟨pb, 1, none⟩ = some (.int .i64 (so : Int)) ∧ w'.cell? ⟨pb, 2, none⟩ = some (.slice (some ⟨rb, ro, none⟩) rl rc) ∧ w'.cell? ⟨Br, 0, none⟩ = some (.int .i64 (nt : Int)) ∧ w'.cell? ⟨Br, 1, none⟩ = some (.slice (some ⟨eb, 0, none⟩) ns ns) ∧ w'.cell? ⟨Br, 2, none⟩ = some (.slice (some ⟨fb, 0, none⟩) ns ns) ∧
        w'.cell? ⟨Bv, 0, none⟩ = some (.slice (some ⟨lb, 0, none⟩) ns ns) ∧ w'.cell? ⟨lb, so, none⟩ = some (u64 y)) (by kernel_rfl) ⟨p1q, p2q, z0, z1, z2, z3, z4⟩ (fun inv hHeld => ?_)
      refine anyT_take (i := 0) (oi := { dst := some 32, op := Op.move (Operand.tmp 0), type := 134, pos := "sets.go:121", after := #[], guard := none }) (v := ?_) rfl (by kernel_rfl) (by kernel_rfl) (by kernel_rfl) (by decide) (by decide) (by kernel_rfl) (by kernel_rfl) (fun _ _ _ h => h) (Or.inl ⟨by rfl, ?_⟩) hHeld inv (fun inv => ?_)
      rotate_left
      ·intro w hSw
       try dsimp only at hSw
       go_simp
       try with_reducible rfl
      simp only [Act.put, List.setIfInBounds_toArray, List.set_cons_zero, List.set_cons_succ]
      refine anyT_take (i := 1) (oi := { dst := some 33, op := Op.move (Operand.tmp 8), type := 61, pos := "sets.go:121", after := #[], guard := none }) (v := ?_) rfl (by kernel_rfl) (by kernel_rfl) (by kernel_rfl) (by decide) (by decide) (by kernel_rfl) (by kernel_rfl) (fun _ _ _ h => h) (Or.inl ⟨by rfl, ?_⟩) hHeld inv (fun inv => ?_)
      rotate_left
      ·intro w hSw
       try dsimp only at hSw
       go_simp
       try with_reducible rfl
      simp only [Act.put, List.setIfInBounds_toArray, List.set_cons_zero, List.set_cons_succ]
      refine anyT_take (i := 2) (oi := { dst := some 34, op := Op.binOp BinOp.sub 61 (Operand.const (Value.int IntKind.i64 (-1))) (Operand.tmp 33) 61, type := 61, pos := "sets.go:121", after := #[{ on := 1, ground := Ground.data }], guard := none }) (v := ?_) rfl (by kernel_rfl) (by kernel_rfl) (by kernel_rfl) (by decide) (by decide) (by kernel_rfl) (by kernel_rfl) (fun _ _ _ h => h) (Or.inl ⟨by rfl, ?_⟩) hHeld inv (fun inv => ?_)
      rotate_left
      ·intro w hSw
       try dsimp only at hSw
       go_simp
       try with_reducible rfl
      simp only [Act.put, List.setIfInBounds_toArray, List.set_cons_zero, List.set_cons_succ]
      refine anyT_take (i := 3) (oi := { dst := some 35, op := Op.load 130 (Operand.tmp 2), type := 130, pos := "sets.go:121", after := #[], guard := none }) (v := ?_) rfl (by kernel_rfl) (by kernel_rfl) (by kernel_rfl) (by decide) (by decide) (by kernel_rfl) (by kernel_rfl) (fun _ _ _ h => h) (Or.inl ⟨by rfl, ?_⟩) hHeld inv (fun inv => ?_)
      rotate_left
      ·intro w hSw
       try dsimp only at hSw
       go_simp
       try with_reducible rfl
      simp only [Act.put, List.setIfInBounds_toArray, List.set_cons_zero, List.set_cons_succ]
      refine anyT_take (i := 4) (oi := { dst := some 36, op := Op.fieldAddr 71 (Operand.tmp 6) 2, type := 0, pos := "sets.go:121", after := #[], guard := none }) (v := ?_) rfl (by kernel_rfl) (by kernel_rfl) (by kernel_rfl) (by decide) (by decide) (by kernel_rfl) (by kernel_rfl) (fun _ _ _ h => h) (Or.inl ⟨by rfl, ?_⟩) hHeld inv (fun inv => ?_)
      rotate_left
      ·intro w hSw
       try dsimp only at hSw
       go_simp
       try with_reducible rfl
      simp only [Act.put, List.setIfInBounds_toArray, List.set_cons_zero, List.set_cons_succ]
      refine anyT_take (i := 5) (oi := { dst := some 37, op := Op.load 64 (Operand.tmp 36), type := 64, pos := "sets.go:121", after := #[{ on := 4, ground := Ground.data }], guard := none }) (v := ?_) rfl (by kernel_rfl) (by kernel_rfl) (by kernel_rfl) (by decide) (by decide) (by kernel_rfl) (by kernel_rfl) (fun _ _ _ h => h) (Or.inl ⟨by rfl, ?_⟩) hHeld inv (fun inv => ?_)
      rotate_left
      ·intro w hSw
       try dsimp only at hSw
       go_simp
       try with_reducible rfl
      simp only [Act.put, List.setIfInBounds_toArray, List.set_cons_zero, List.set_cons_succ]
      refine anyT_take (i := 6) (oi := { dst := some 38, op := Op.move (Operand.tmp 7), type := 3, pos := "sets.go:121", after := #[], guard := none }) (v := ?_) rfl (by kernel_rfl) (by kernel_rfl) (by kernel_rfl) (by decide) (by decide) (by kernel_rfl) (by kernel_rfl) (fun _ _ _ h => h) (Or.inl ⟨by rfl, ?_⟩) hHeld inv (fun inv => ?_)
      rotate_left
      ·intro w hSw
       try dsimp only at hSw
       go_simp
       try with_reducible rfl
      simp only [Act.put, List.setIfInBounds_toArray, List.set_cons_zero, List.set_cons_succ]
      refine anyT_take (i := 7) (oi := { dst := some 39, op := Op.binOp BinOp.add 3 (Operand.tmp 38) (Operand.const (Value.int IntKind.i64 1)) 3, type := 3, pos := "sets.go:121", after := #[{ on := 6, ground := Ground.data }], guard := none }) (v := ?_) rfl (by kernel_rfl) (by kernel_rfl) (by kernel_rfl) (by decide) (by decide) (by kernel_rfl) (by kernel_rfl) (fun _ _ _ h => h) (Or.inl ⟨by rfl, ?_⟩) hHeld inv (fun inv => ?_)
      rotate_left
      ·intro w hSw
       try dsimp only at hSw
       go_simp
       try with_reducible rfl
      simp only [Act.put, List.setIfInBounds_toArray, List.set_cons_zero, List.set_cons_succ]
      refine anyT_take (i := 8) (oi := { dst := some 40, op := Op.slice 64 (Operand.tmp 37) (some (Operand.tmp 39)) none none, type := 64, pos := "sets.go:121", after := #[{ on := 5, ground := Ground.data }, { on := 7, ground := Ground.data }], guard := none }) (v := ?_) rfl (by kernel_rfl) (by kernel_rfl) (by kernel_rfl) (by decide) (by decide) (by kernel_rfl) (by kernel_rfl) (fun _ _ _ h => h) (Or.inl ⟨by rfl, ?_⟩) hHeld inv (fun inv => ?_)
      rotate_left
      ·intro w hSw
       try dsimp only at hSw
       go_simp
       try with_reducible rfl
      simp only [Act.put, List.setIfInBounds_toArray, List.set_cons_zero, List.set_cons_succ]
      refine anyT_take (i := 9) (oi := { dst := some 41, op := Op.load 46 (Operand.tmp 3), type := 46, pos := "sets.go:121", after := #[], guard := none }) (v := ?_) rfl (by kernel_rfl) (by kernel_rfl) (by kernel_rfl) (by decide) (by decide) (by kernel_rfl) (by kernel_rfl) (fun _ _ _ h => h) (Or.inl ⟨by rfl, ?_⟩) hHeld inv (fun inv => ?_)
      rotate_left
      ·intro w hSw
       try dsimp only at hSw
       go_simp
       try with_reducible rfl
      simp only [Act.put, List.setIfInBounds_toArray, List.set_cons_zero, List.set_cons_succ]
      refine anyT_take (i := 10) (oi := { dst := some 42, op := Op.fieldAddr 71 (Operand.tmp 6) 1, type := 0, pos := "sets.go:121", after := #[], guard := none }) (v := ?_) rfl (by kernel_rfl) (by kernel_rfl) (by kernel_rfl) (by decide) (by decide) (by kernel_rfl) (by kernel_rfl) (fun _ _ _ h => h) (Or.inl ⟨by rfl, ?_⟩) hHeld inv (fun inv => ?_)
      rotate_left
      ·intro w hSw
       try dsimp only at hSw
       go_simp
       try with_reducible rfl
      simp only [Act.put, List.setIfInBounds_toArray, List.set_cons_zero, List.set_cons_succ]
      refine anyT_take (i := 11) (oi := { dst := some 43, op := Op.load 3 (Operand.tmp 42), type := 3, pos := "sets.go:121", after := #[{ on := 10, ground := Ground.data }], guard := none }) (v := ?_) rfl (by kernel_rfl) (by kernel_rfl) (by kernel_rfl) (by decide) (by decide) (by kernel_rfl) (by kernel_rfl) (fun _ _ _ h => h) (Or.inl ⟨by rfl, ?_⟩) hHeld inv (fun inv => ?_)
      rotate_left
      ·intro w hSw
       try dsimp only at hSw
       go_simp
       try with_reducible rfl
      simp only [Act.put, List.setIfInBounds_toArray, List.set_cons_zero, List.set_cons_succ]
      refine anyT_take (i := 12) (oi := { dst := some 44, op := Op.indexAddr 46 (Operand.tmp 41) (Operand.tmp 43), type := 0, pos := "sets.go:121", after := #[{ on := 9, ground := Ground.data }, { on := 11, ground := Ground.data }], guard := none }) (v := ?_) rfl (by kernel_rfl) (by kernel_rfl) (by kernel_rfl) (by decide) (by decide) (by kernel_rfl) (by kernel_rfl) (fun _ _ _ h => h) (Or.inl ⟨by rfl, ?_⟩) hHeld inv (fun inv => ?_)
      rotate_left
      ·intro w hSw
       try dsimp only at hSw
       go_simp
       try with_reducible rfl
      simp only [Act.put, List.setIfInBounds_toArray, List.set_cons_zero, List.set_cons_succ]
      refine anyT_take (i := 13) (oi := { dst := some 45, op := Op.load 69 (Operand.tmp 44), type := 69, pos := "sets.go:121", after := #[{ on := 12, ground := Ground.data }], guard := none }) (v := ?_) rfl (by kernel_rfl) (by kernel_rfl) (by kernel_rfl) (by decide) (by decide) (by kernel_rfl) (by kernel_rfl) (fun _ _ _ h => h) (Or.inl ⟨by rfl, ?_⟩) hHeld inv (fun inv => ?_)
      rotate_left
      ·intro w hSw
       try dsimp only at hSw
       go_simp
       try with_reducible rfl
      simp only [Act.put, List.setIfInBounds_toArray, List.set_cons_zero, List.set_cons_succ]
      refine anyT_one (i := 14) (o := { dst := some 46, op := Op.call { callee := Callee.value (Operand.func 68), args := #[Operand.tmp 35, Operand.tmp 40, Operand.tmp 45], argTypes := #[130, 64, 69] }, type := 69, pos := "sets.go:121", after := #[{ on := 3, ground := Ground.data }, { on := 8, ground := Ground.data }, { on := 13, ground := Ground.data }], guard := none }) (by kernel_rfl) rfl (fun K' hK => ?_)
      go_simp
      refine (kof.out _ (Below.refl _ _).drew).mono ?_
      rintro e w5 ⟨rfl, hb5⟩
      go_wp2_with fail
      refine hK.out _ _ (fun _ => ⟨cell_below hb5 p1q, cell_below hb5 p2q, cell_below hb5 z0, cell_below hb5 z1, cell_below hb5 z2, cell_below hb5 z3, cell_below hb5 z4⟩) ?_
      clear hK K'
      try simp only [Act.put, List.setIfInBounds_toArray, List.set_cons_zero, List.set_cons_succ]
      refine anyT_one (i := 15) (o := { dst := some 47, op := Op.call { callee := Callee.value (Operand.tmp 32), args := #[Operand.tmp 34, Operand.tmp 46], argTypes := #[3, 69] }, type := 0, pos := "sets.go:121", after := #[{ on := 0, ground := Ground.data }, { on := 2, ground := Ground.data }, { on := 14, ground := Ground.data }, { on := 14, ground := Ground.chain }], guard := none }) (by kernel_rfl) rfl (fun K' hK => ?_)
      go_simp
      refine (kmo.out _ hb5).mono ?_
      rintro e w6 ⟨⟨v, rfl⟩, hS6, hF6⟩
      go_wp2_with fail
      refine hK.out _ _ (fun h => absurd h (by decide)) ?_
      clear hK K'
      try simp only [Act.put, List.setIfInBounds_toArray, List.set_cons_zero, List.set_cons_succ]
      refine anyT_done (by kernel_rfl) ?_ _
      have hFF := hid (HFq.out.trans hF6)
      clear hF6
      go_wp2
      exact ⟨⟨q + 1, _, _, by omega, by go_num, hS6, hFF.out, HST.out⟩, by simp [RowKit.intOf]; omega⟩
    ·obtain rfl : q = rl := by omega
     have HPq : Hid (PassedS (evW nt E F G.start G.prods) ((G.start.toNat, fun _ => bitN 63) :: evAll nt E F (G.prods.take (j + 1))) L Lq cq) := by
      rw [HSN.out]; exact hPq
     have hFF := hid (HF2.out.trans hFq)
     clear hPq hFq
     go_wp2
     exact ⟨⟨j + 1, _, _, by omega, by go_num, hSq, hFF.out, HPq.out⟩, by simp [RowKit.intOf]; omega⟩
  ·obtain rfl : j = np := by omega
   have hlf : G.prods.take j = G.prods := List.take_of_length_le (by omega)
   rw [hlf] at hP
   have HP := hid hP
   clear hP
   go_wp2
   go_end0
   exact ⟨⟨_, rfl⟩, Lj, c, hS', hF', HP.out⟩
end Go.Proofs.YticmnfmijdgmbaaGreatDoor.S13

/- sets.Follow. -/
namespace Go.Proofs.YticmnfmijdgmbaaGreatDoor.S13
open Go Go.RowKit Go.Lib Go.Joins
set_option maxRecDepth 100000 in
set_option maxHeartbeats 2000000 in
theorem Follow_any {G : GD} {gv tv ov sv pv : Value} {tf : Nat → Nat → Value} {rv : Nat → Value} {w : World} (h : GrAt w gv G tv ov sv pv tf rv) (hV : validB G = true) :
  Calls Tryz.prog 30 #[gv] w fun e W' =>
   ∃ lb E F L, e = .returned (.slice (some ⟨lb, 0, none⟩) G.sorts.length G.sorts.length) ∧ Least false G.prods G.sorts.length E ∧ LeastS (evF G.terms.length E G.prods) G.sorts.length F ∧
    LeastS (evW G.terms.length E F G.start G.prods) G.sorts.length L ∧ W'.heap[lb]? = some (.cells (sets L) 69) ∧ w.heap.size ≤ lb ∧ Below w.heap.size w W' := by
 obtain ⟨W1, B, hW1, hB, c0, c1, c2, c3, c4, hG, hb, hsz⟩ := gr_box h
 subst hB
 have kv := Valid_any hG
 rw [hV] at kv
 have kn := hid fun (W' : World) (hb : Below W1.heap.size W1 W') => newRows_any (hG.mono hb) hV
 have hgv := h.eq
 have hs := h.sorts
 subst hgv
 obtain ⟨sa, sc, rfl, hsn, _⟩ := hs
 obtain ⟨n60, s60, p120⟩ := valid_few hV
 have HV := hid hV
 clear hV
 have hz1 : w.heap.size < W1.heap.size := by rw [hW1]; simp
 generalize hns : G.sorts.length = ns at *
 generalize hnt : G.terms.length = nt at *
 go_enter Tryz.func30, Tryz.ntmps30
 go_wp2_with fail
 rw [← hW1]
 clear hW1
 refine kv.mono ?_
 rintro e w1 ⟨rfl, hB1⟩
 have d0 := cell_below hB1 c0
 have d1 := cell_below hB1 c1
 have d2 := cell_below hB1 c2
 have d3 := cell_below hB1 c3
 have d4 := cell_below hB1 c4
 go_wp2_with fail
 refine (kn.out _ hB1).mono ?_
 rintro e w2 ⟨eb, fb, E, F, rfl, h1, h2, h3, h4, h5, h6, h7⟩
 have f0 := cell_below h7 d0
 have f1 := cell_below h7 d1
 have f2 := cell_below h7 d2
 have f3 := cell_below h7 d3
 have f4 := cell_below h7 d4
 have km := made_sets ns (by omega)
 have i0 : (0 : Int) ≤ (ns : Int) := by omega
 clear d0 d1 d2 d3 d4 c0 c1 c2 c3 c4
 obtain ⟨w3, hw3⟩ : ∃ w3, w3 = w2.alloc (.cells #[.int .i64 (nt : Int), .slice (some ⟨eb, 0, none⟩) ns ns, .slice (some ⟨fb, 0, none⟩) ns ns] 130) := ⟨_, rfl⟩
 have hB3 : Below w2.heap.size w2 w3 := by rw [hw3]; exact (Below.refl _ _).alloc (Nat.le_refl _) _
 have hz3 : w3.heap.size = w2.heap.size + 1 := by rw [hw3]; simp
 have hBr : w3.heap[w2.heap.size]? = some (.cells #[.int .i64 (nt : Int), .slice (some ⟨eb, 0, none⟩) ns ns, .slice (some ⟨fb, 0, none⟩) ns ns] 130) := by rw [hw3]; exact new_block w2 _
 have g2 := cell_alloc (o := .cells #[.int .i64 (nt : Int), .slice (some ⟨eb, 0, none⟩) ns ns, .slice (some ⟨fb, 0, none⟩) ns ns] 130) f2
 obtain ⟨w4, hw4⟩ : ∃ w4, w4 = (w3.alloc (.cells (sets (List.replicate ns 0)) 69)).alloc (.cells #[.slice (some ⟨w3.heap.size, 0, none⟩) ns ns] 46) := ⟨_, rfl⟩
 have hB4 : Below w3.heap.size w3 w4 := by rw [hw4]; exact ((Below.refl _ _).alloc (Nat.le_refl _) _).alloc (by simp) _
 have hlb : w4.heap[w3.heap.size]? = some (.cells (sets (List.replicate ns 0)) 69) := by rw [hw4]; exact heap_al (new_block w3 _)
 have hBv : w4.heap[w3.heap.size + 1]? = some (.cells #[.slice (some ⟨w3.heap.size, 0, none⟩) ns ns] 46) := by rw [hw4]; exact new_block2 w3 _ _
 have hz4 := hB4.size
 have hz2 := hB1.size
 have hz5 := h7.size
 have kk3 := cell_below hB3 f3
 have kk4 := cell_below hB3 f4
 have hG3 := hG.mono (hB1.trans ((h7.mono hz2).trans (hB3.mono (by omega))))
 have KG := (growS (W := w4) (lb := w3.heap.size) (n := ns) (tf := 71) (caps := #[.pointer (some ⟨w.heap.size, 0, none⟩), .pointer (some ⟨w2.heap.size, 0, none⟩), .pointer (some ⟨w3.heap.size + 1, 0, none⟩)]) (evs := evW nt E F G.start G.prods) (fun _ _ => rfl) hlb
  (hid fun W' Bl Bj Bc L hF hS hLt hBc => by
   have hnv : ¬ (w3.heap.size + 1 = w3.heap.size) := by omega
   have := passW (lb := w3.heap.size) (Bc := Bc) (Bl := Bl) (Bj := Bj) (Bg := w.heap.size) (Br := w2.heap.size) (Bv := w3.heap.size + 1) (w0 := w3) (E := E) (eb := eb) (F := F) (fb := fb) (W := W') hG3 HV.out kk3 kk4 (heap_keep hB3 h3) (by rw [h1.length, hns]) (heap_keep hB3 h4) (by rw [h2.length, hns]) h2.2.2 (by rw [hns, hnt]; exact hBr)
    (by rw [hns]; exact hF.heap hBv hnv) (hB4.trans (hF.toBelow hz4 (by rintro k rfl; exact Nat.le_refl _))) (by rw [hns]; exact hS) hLt (Nat.le_refl _) (by omega)
   rw [hns, hnt] at this
   simpa using this))
 dsimp only [rowsV]
 have kv4 := cell_of_block hBv 0
 simp only [List.getElem?_toArray, List.getElem?_cons_zero] at kv4
 have HB3 := hB3.trans (hB4.mono hB3.size)
 clear hBr hlb hBv hB3 hB4 f2 f3 f4 f0 f1 kk3 kk4 hG3 hz4
 rw [hz3] at KG kv4 hw4
 rw [hw3] at hw4
 have KG := hid KG
 clear hz3 hw3 w3
 go_upto_region 5 with fail
 rw [← hw4]
 clear hw4
 go_wp2_with fail
 refine KG.out.mono ?_
 rintro e w6 ⟨rfl, L, hL1, hL2, hL3⟩
 go_wp2_with fail
 go_ret
 have hB6 := HB3.trans (hL3.toBelow HB3.size (by rintro k rfl; omega))
 exact ⟨w2.heap.size + 1, E, F, L, rfl, h1, h2, hL1, hL2, by omega, hb.trans ((hB1.mono hsz).trans ((h7.mono (by omega)).trans (hB6.mono (by omega))))⟩
end Go.Proofs.YticmnfmijdgmbaaGreatDoor.S13

/- Plain mathematics: the least sets of a grammar, and the document's example. -/
namespace Go.Proofs.YticmnfmijdgmbaaGreatDoor.S13
def MonoN (n : Nat) (evs : List Ev) : Prop := ∀ e ∈ evs, ∀ a b : List Nat, a.length = n → b.length = n → LeS a b → Sub (e.2 a) (e.2 b)
theorem reachS_leastN {evs : List Ev} {n : Nat} {a b M : List Nat} (h : ReachS evs a b) (hl : a.length = n) (hlM : M.length = n) (ha : LeS a M) (hm : MonoN n evs) (hM : ClosedS evs M) : LeS b M := by
 induction h with
 | refl => exact ha
 | step hr hp ih =>
  rename_i L e
  intro i
  unfold stepS
  rw [List.getD_eq_getElem?_getD, List.getElem?_set]
  split
  ·rename_i e'
   subst e'
   split
   ·exact or_sub (ih _) (sub_trans (hm _ hp _ _ (by rw [reachS_length hr, hl]) hlM ih) (hM _ hp))
   ·exact zero_sub _
  ·rw [← List.getD_eq_getElem?_getD]; exact ih i
theorem LeastS.leN {evs : List Ev} {n : Nat} {L M : List Nat} (h : LeastS evs n L) (hm : MonoN n evs) (hl : M.length = n) (hM : ClosedS evs M) : LeS L M :=
 reachS_leastN h.1 (by simp) hl (none_leS n M) hm hM
theorem ext_leS {a b : List Nat} (hl : a.length = b.length) (h1 : LeS a b) (h2 : LeS b a) : a = b := by
 refine List.ext_getElem hl fun i x y => ?_
 have e := sub_antisymm (h1 i) (h2 i)
 rw [List.getD_eq_getElem?_getD, List.getD_eq_getElem?_getD, List.getElem?_eq_getElem x, List.getElem?_eq_getElem y] at e
 exact e
theorem LeastS.sameN {evs : List Ev} {n : Nat} {L M : List Nat} (h : LeastS evs n L) (h2 : LeastS evs n M) (hm : MonoN n evs) : L = M :=
 ext_leS (by rw [h.length, h2.length]) (h.leN hm h2.length h2.2.1) (h2.leN hm h.length h.2.1)
theorem evF_mono (nt : Nat) (E : List Bool) (ps : List PD) (n : Nat) : MonoN n (evF nt E ps) := by
 intro e he a b ha hb hab
 obtain ⟨p, _, rfl⟩ := List.mem_map.1 he
 exact ofRow_mono nt E hab (by rw [ha, hb]) p.rs (sub_refl 0)
end Go.Proofs.YticmnfmijdgmbaaGreatDoor.S13

/- Plain mathematics: what lives and begins with nothing may be empty. -/
namespace Go.Proofs.YticmnfmijdgmbaaGreatDoor.S13
def RowOk (nt ns : Nat) (l : List Int) : Prop := ∀ s ∈ l, (0 ≤ s ∧ s < nt) ∨ (s < 0 ∧ -1 - s < ns)
theorem valid_rows {G : GD} (hV : validB G = true) : ∀ p ∈ G.prods, 0 ≤ p.sort ∧ p.sort < G.sorts.length ∧ RowOk G.terms.length G.sorts.length p.rs := by
 intro p hp
 obtain ⟨k, hk, rfl⟩ := List.getElem_of_mem hp
 have := prodB_sortNat (valid_prod hV hk)
 rw [List.getD_eq_getElem?_getD, List.getElem?_eq_getElem hk] at this
 exact ⟨this.1, this.2.1, this.2.2.2⟩
theorem or_zero_left {a b : Nat} (h : a ||| b = 0) : a = 0 := by
 have := sub_le (sub_or_left a b)
 omega
theorem or_zero_right {a b : Nat} (h : a ||| b = 0) : b = 0 := by
 have := sub_le (sub_or_right a b)
 omega
theorem bitN_ne {s : Int} (h0 : 0 ≤ s) (h1 : s < 64) : bitN s ≠ 0 := by
 unfold bitN
 rw [if_pos ⟨h0, h1⟩]
 exact Nat.pos_iff_ne_zero.1 (Nat.two_pow_pos _)
theorem row_begins {nt ns : Nat} {E : List Bool} {F : List Nat} {M : List Bool} (hnt : nt ≤ 60) (hFl : F.length = ns) (hM : ∀ i, M.getD i false = true → E.getD i false = true ∨ F.getD i 0 ≠ 0) :
  ∀ (l : List Int), RowOk nt ns l → l.all (isK true M) = true → l.all (isK false E) = true ∨ ofRow nt E F l 0 ≠ 0
 | [], _, _ => .inl rfl
 | s :: l, hr, ha => by
  rw [List.all_cons, Bool.and_eq_true] at ha
  have ih := row_begins hnt hFl hM l (fun x hx => hr x (List.mem_cons_of_mem _ hx)) ha.2
  have hs := hr s List.mem_cons_self
  unfold ofRow
  by_cases h0 : 0 ≤ s
  ·right
   rw [if_pos h0, if_pos (by omega)]
   exact bitN_ne h0 (by omega)
  ·rw [if_neg h0, if_neg (by omega)]
   have h1 := ha.1
   unfold isK at h1
   rw [if_pos (by omega)] at h1
   rcases hM _ h1 with h2 | h2
   ·rw [if_pos h2]
    rcases ih with h3 | h3
    ·left
     rw [List.all_cons, h3, Bool.and_true]
     unfold isK
     rw [if_pos (by omega)]
     exact h2
    ·right
     exact fun h4 => h3 (or_zero_right h4)
   ·right
    exact fun h4 => h2 (or_zero_left h4)
theorem lives_begins {G : GD} (hV : validB G = true) {E L : List Bool} {F : List Nat} (hE : Least false G.prods G.sorts.length E) (hL : Least true G.prods G.sorts.length L)
  (hF : LeastS (evF G.terms.length E G.prods) G.sorts.length F) (i : Nat) (hi : L.getD i false = true) : E.getD i false = true ∨ F.getD i 0 ≠ 0 := by
 obtain ⟨n60, _, _⟩ := valid_few hV
 have hgd : ∀ i, i < G.sorts.length → ((List.range G.sorts.length).map fun i => E.getD i false || decide (F.getD i 0 ≠ 0)).getD i false = (E.getD i false || decide (F.getD i 0 ≠ 0)) := fun i hi => by
  simp [List.getD_eq_getElem?_getD, hi]
 have hout : ∀ i, ((List.range G.sorts.length).map fun i => E.getD i false || decide (F.getD i 0 ≠ 0)).getD i false = true → E.getD i false = true ∨ F.getD i 0 ≠ 0 := fun i h => by
  by_cases hlt : i < G.sorts.length
  ·rw [hgd i hlt, Bool.or_eq_true, decide_eq_true_eq] at h
   exact h
  ·rw [List.getD_eq_getElem?_getD, List.getElem?_eq_none (by simp; omega)] at h
   cases h
 refine hout i (hL.le ?_ i hi)
 intro p hp ha
 obtain ⟨h1, h2, h3⟩ := valid_rows hV p hp
 rw [hgd _ (by omega), Bool.or_eq_true, decide_eq_true_eq]
 rcases row_begins n60 hF.length hout p.rs h3 ha with h4 | h4
 ·exact .inl (hE.2 p hp h4)
 ·right
  intro h5
  have := sub_le (hF.2.1 _ (List.mem_map.2 ⟨p, hp, rfl⟩))
  simp only [h5] at this
  omega
end Go.Proofs.YticmnfmijdgmbaaGreatDoor.S13
