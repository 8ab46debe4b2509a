/- MiniOrder: the walk. -/
import Derived.Test.YtochckefnjobhaaDoorKx
import Derived.Test.YtochckefnjobhaaDoorKy
namespace Go.Proofs.YtochckefnjobhaaDoor
open Go Go.RowKit Go.Lib
open X5 (Aut)
set_option linter.unusedVariables false
set_option linter.unusedSimpArgs false

theorem cells3 {w w' : World} (hb : Below w.heap.size w w') {a b c d e f : Nat} {x y z : Value} {m : Nat} (h0 : w.cell? ⟨a, b, none⟩ = some x ∧ w.cell? ⟨c, d, none⟩ = some y ∧ w.cell? ⟨e, f, none⟩ = some z ∧ m < w.heap.size) :
    w'.cell? ⟨a, b, none⟩ = some x ∧ w'.cell? ⟨c, d, none⟩ = some y ∧ w'.cell? ⟨e, f, none⟩ = some z ∧ m < w'.heap.size :=
  ⟨cell_grow hb h0.1, cell_grow hb h0.2.1, cell_grow hb h0.2.2.1, Nat.lt_of_lt_of_le h0.2.2.2 hb.size⟩
theorem tgo {B lb i : Nat} {cv : Array Value} {W w : World} {D : Aut} {rv : Value} {R : List Int} {nd : Value} {CV : List Value} {NX : List (List Int)} {td : Value} (h : GO B lb cv W rv R nd CV NX td ((List.range i).map (X6.tagT D)) w) : w.ownsRow B 43 1 td i (u64s ((List.range i).map (X6.tagT D))) := by
  have := h.tg
  rwa [List.length_map, List.length_range] at this
theorem wp_load26' {o : Oper} {a : Act} {w : World} {K : Act → World → Prop} {Q : Exit → Act → World → Prop} (p : Operand) (hop : o.op = .load 26 p) (g : Nat) (hp : a.eval p = .pointer (some ⟨g, 0, none⟩)) (cv : Array Value) (nv tv : Value) (dc : Array Value) (hd : cv ++ #[nv, tv] = dc) (hb : w.heap[g]? = some (.cells dc 30 (0, 0))) (h1 : cv.size = 256)
    (hK : K (a.put o.dst (.agg cv)) w) : o.wp Tryd.prog a w K Q := by
  unfold Oper.wp
  rw [exec_load26 p hop g hp cv nv tv dc hd hb h1]
  exact hK
/-- Behind the first rows. -/
def OI (D : Aut) (B : Nat) (cv : Array Value) (W : World) (i : Nat) (w : World) : Prop :=
  ∃ (nd : Value) (CV : List Value) (td : Value), CV.length = i ∧ GO B B cv W nil1 [] nd CV ((List.range i).map (X6.rowT D)) td ((List.range i).map (X6.tagT D)) w
theorem map_snoc (f : Int → Int) {l : List Int} {c : Nat} {z : Int} (h : l[c]? = some z) : (l.take (c + 1)).map f = (l.take c).map f ++ [f z] := by
  rw [List.take_add_one, h, List.map_append]
  rfl
theorem OI.lies {D : Aut} {B N : Nat} {W w : World} (h : OI D B (ivs D.cls) W N w) (hN : D.next.length = N) (hl : D.cls.length = 256) (hf : N ≤ 1000000) {K : Nat} (hD : X6.Ok D K) (hK : K ≤ 1000000) (ht : ∀ t ∈ D.tags, t < 18446744073709551616) :
    ∃ dt, Lies (X6.turn D) dt w ∧ Bxx B dt w := by
  obtain ⟨nd, CV, td, hc, hg⟩ := h
  have e : (⟨D.cls, (List.range N).map (X6.rowT D), (List.range N).map (X6.tagT D)⟩ : Aut) = X6.turn D := by
    unfold X6.turn; rw [hN]
  have h := hg.lies hl (by simp [hc]) (fun t ht' => ?_) (by unfold maxLen; simp; omega) (by unfold maxLen; simp; omega) (fun q hq => ?_)
  · rw [e] at h
    exact ⟨_, h⟩
  · obtain ⟨i, hi, rfl⟩ := List.mem_map.1 ht'
    rw [List.mem_range] at hi
    exact ht _ (X6.getD_mem (by rw [hD.tags]; exact X6.from_lt (by omega)))
  · obtain ⟨i, hi, rfl⟩ := List.mem_map.1 hq
    rw [List.mem_range] at hi
    have h1 := hD.rows (X6.from_ D.next.length i) (X6.from_lt (by omega))
    unfold X6.rowT maxLen
    rw [List.length_map, h1]
    omega

set_option maxRecDepth 100000 in
set_option maxHeartbeats 16000000 in
theorem order_walk {D : Aut} {d0 : Array Value} (w : World) (hL : Lies D d0 w) {Bt : Nat} (ht : Tab Bt w) (hBt : Bt ≤ w.heap.size) :
    Calls Tryd.prog 9 #[.agg d0] w fun e w' => e = .returned (.bool true) ∧ Below w.heap.size w w' := by
  obtain ⟨wa, ea, hxa, hba⟩ := boxed w d0
  have HL := hid (hL.below hba)
  have HX := hid hxa
  have HB := hid hba
  have K := hid (works06 wa (ht.on (hba.mono hBt)) (Nat.le_trans hBt hba.size))
  obtain ⟨h11, h12, h13, h14⟩ := hL.sz
  have HD := hid (And.intro h11 (And.intro h12 (And.intro h13 h14)))
  clear hL ht hxa hba h11 h12 h13 h14
  go_enter Tryd.func9, Tryd.ntmps9
  go_wp2_with fail
  refine K.out.mono ?_
  rintro e w1 ⟨rfl, hb⟩
  clear K ea
  have HB1 := hid (HB.out.trans (hb.mono HB.out.size))
  have HL := hid (HL.out.below hb)
  have HX := hid (HX.out.below hb)
  have K := hid (little_at HL.out)
  clear hb
  go_wp2_with fail
  refine wp_load30' (.tmp 1) rfl w.heap.size rfl d0 HX.out HD.out.1 ?_
  go_wp2_with fail
  refine K.out.mono ?_
  rintro e w2 ⟨b, rfl, hbl, hb⟩
  clear K
  have HB2 := hid (HB1.out.trans (hb.mono HB1.out.size))
  have HL := hid (HL.out.below hb)
  have HX := hid (HX.out.below hb)
  clear hb
  cases b with
  | false =>
    clear hbl
    go_wp2_with fail
    go_ret
    exact ⟨rfl, HB2.out⟩
  | true =>
    have HF := hid (X6.Lit.few (hbl.1 rfl))
    clear hbl
    by_cases hv : X6.Vd D
    rotate_left
    · have K := hid (valid_no HL.out HF.out hv)
      clear hv
      go_wp2_with fail
      refine wp_load30' (.tmp 1) rfl w.heap.size rfl d0 HX.out HD.out.1 ?_
      go_wp2_with fail
      refine K.out.mono ?_
      rintro e w3 ⟨rfl, hb⟩
      clear K
      have HB3 := hid (HB2.out.trans (hb.mono HB2.out.size))
      clear hb
      go_wp2_with fail
      go_ret
      exact ⟨rfl, HB3.out⟩
    · have HV := hid hv
      have K := hid (valid_yes HL.out HF.out hv)
      clear hv
      go_wp2_with fail
      refine wp_load30' (.tmp 1) rfl w.heap.size rfl d0 HX.out HD.out.1 ?_
      go_wp2_with fail
      refine K.out.mono ?_
      rintro e w3 ⟨rfl, hb⟩
      clear K
      have HB3 := hid (HB2.out.trans (hb.mono HB2.out.size))
      have HL := hid (HL.out.below hb)
      have HX := hid (HX.out.below hb)
      clear hb
      obtain ⟨nv, tv, hd0, hda⟩ := HL.out
      obtain ⟨cv, hcv⟩ : ∃ cv, ivs D.cls = cv := ⟨_, rfl⟩
      have hcs : cv.size = 256 := by rw [← hcv, ivs_size]; exact hda.len
      have hco : cv.all (·.oneCell') = true := by rw [← hcv]; exact ivs_one _
      have hdv : cv ++ #[nv, tv] = d0 := by rw [← hcv, hd0]
      have HD256 := hid (dcell_next hda.len nv tv)
      have HD257 := hid (dcell_tags hda.len nv tv)
      rw [← hd0] at HD256 HD257
      have HDA := hid hda
      have HCV := hid (And.intro hcv (And.intro hcs (And.intro hco (And.intro hdv HD.out.1))))
      obtain ⟨no, nc, hno⟩ : ∃ no nc, nv = .slice no D.next.length nc := by
        obtain ⟨ro, rc, e, _⟩ := hda.rows
        exact ⟨ro, rc, e⟩
      obtain ⟨to, tc, hto⟩ : ∃ to tc, tv = .slice to D.tags.length tc := by
        obtain ⟨ro, rc, e, _⟩ := hda.tags
        exact ⟨ro, rc, e⟩
      subst hno hto
      obtain ⟨N, hNN⟩ : ∃ N, D.next.length = N := ⟨_, rfl⟩
      obtain ⟨Kk, hKK⟩ : ∃ Kk, (X5.rowOf D 0).length = Kk := ⟨_, rfl⟩
      have hOK := HV.out.ok
      rw [hKK] at hOK
      have HOK := hid hOK
      have hN := HF.out.1
      have hK := HF.out.2.2.1
      rw [hNN] at hN
      rw [hKK] at hK
      have HNN := hid (And.intro hNN (And.intro hKK (show D.tags.length = N by rw [hOK.tags, hNN])))
      obtain ⟨ld, hld⟩ : ∃ ld, cv ++ #[nil1, nil1] = ld := ⟨_, rfl⟩
      have HLD := hid (And.intro hld (And.intro (show ld.size = 258 from by rw [← hld]; exact dvi_size' hcs) (show ld.all (·.oneCell') = true from by rw [← hld]; exact dvi_one' hco rfl rfl)))
      obtain ⟨w4, e4, hx4, hb4, hs4⟩ := kept_new w3 ld
      have HN3 := hid (new_block w3 (.cells dvz 30))
      have hg4 : GO w3.heap.size w3.heap.size cv w3 nil1 [] nil1 [] [] nil1 [] w4 := GO.begin_ hb4 (by rw [hld]; exact hx4)
      have HO4 := hid (show OI D w3.heap.size cv w3 0 w4 from ⟨nil1, [], nil1, rfl, hg4⟩)
      have HWL := hid (show w.heap.size < w3.heap.size from Bxx.lt HX.out)
      have c1 : w3.cell? ⟨w.heap.size, 256, none⟩ = some (.slice no N nc) := by rw [Lib.cell_of_heap HX.out, HD256.out, hNN]
      obtain ⟨j0, hj, hk0, hk1, hk2⟩ := info_parts info3
      clear hj hk0 hk1 hk2 j0 hda hcs hco hcv hdv hd0 hNN hKK hOK hld hx4 hb4 hs4 hg4
      go_wp2_with fail
      refine wp_load26' (.tmp 32) rfl w.heap.size rfl cv _ _ d0 HCV.out.2.2.2.1 HX.out HCV.out.2.1 ?_
      go_wp2_with (first | (with_reducible refine wpList_made30 rfl rfl ?_) | (with_reducible refine wpList_build30i rfl (.tmp 33) rfl cv HCV.out.2.1 rfl ld HLD.out.1 ?_) | (with_reducible refine wpList_store30 rfl (.tmp 6) (.tmp 34) rfl w3.heap.size rfl dvz ld HN3.out rfl dvz_size HLD.out.2.1 HLD.out.2.2 ?_))
      clear e4 c1
      go_loopw [7] (fun t7 wr => ∃ i : Nat, i ≤ N ∧ t7 = .int .i64 (i : Int) ∧ Hid (OI D w3.heap.size cv w3 i wr)) (fun t7 _ => N - (RowKit.intOf t7).toNat)
      case atStart => exact ⟨0, Nat.zero_le _, rfl, HO4⟩
      case round =>
        clear HO4
        obtain ⟨i, hiN, rfl, HO⟩ := hrel
        obtain ⟨nd, CV, td, hCV, hg⟩ := HO.out
        by_cases hlt : i < N
        · have k1 : (i : Int) < (N : Int) := by omega
          obtain ⟨f, hf⟩ : ∃ f, X6.from_ D.next.length i = f := ⟨_, rfl⟩
          have hfN : f < N := by rw [← hf, ← HNN.out.1]; exact X6.from_lt (by rw [HNN.out.1]; exact hlt)
          obtain ⟨ndo, ndc, rfl⟩ := own_shape hg.nx.row
          obtain ⟨tdo, tdc, rfl⟩ := own_shape (tgo hg)
          have HG := hid hg
          have HI := hid (And.intro hf hCV)
          obtain ⟨bn, offn, ro, rc, nc', hno, hbn, cn, hrow⟩ := rowsAt_get HDA.out.rows (rowOf_get (show f < D.next.length by rw [HNN.out.1]; exact hfN))
          injection hno with hno1 hno2 hno3
          subst hno1
          have hrl := HOK.out.rows f (by rw [HNN.out.1]; exact hfN)
          rw [hrl] at cn hrow
          have HRW := hid (And.intro hrow hrl)
          have HCN := hid (And.intro hbn cn)
          have HNO := hid (show X6.from_ D.next.length i = if 0 < i then N - i else 0 from by unfold X6.from_; rw [HNN.out.1])
          clear hno2 hno3 hrow hrl hbn cn hg hCV HO hf
          by_cases h0 : 0 < i
          · have g0 : (0 : Int) < (i : Int) := by omega
            have hff : (N : Int) - (i : Int) = (f : Int) := by have h1 := HI.out.1; rw [HNO.out, if_pos h0] at h1; omega
            have HFF := hid hff
            have gd : decide (0 < i) = true := decide_eq_true h0
            have gd2 : decide ((0 : Int) < (i : Int)) = true := decide_eq_true g0
            clear h0 HNO
            go_wp2_with fail
            try simp only [gd]
            clear g0 gd gd2
            try clear hff
            go_loopw [9, 10] (fun t9 t10 wr => ∃ (c : Nat) (o : Option Addr) (cq : Nat), c ≤ Kk ∧ t10 = .int .i64 (c : Int) ∧ t9 = .slice o c cq ∧ Hid (GO w3.heap.size w3.heap.size cv w3 (.slice o c cq) (((X5.rowOf D f).take c).map (X6.oth N)) (.slice ndo CV.length ndc) CV ((List.range i).map (X6.rowT D)) (.slice tdo i tdc) ((List.range i).map (X6.tagT D)) wr)) (fun _ t10 _ => Kk - (RowKit.intOf t10).toNat)
            case atStart => exact ⟨0, none, 0, Nat.zero_le _, rfl, rfl, HG⟩
            case round =>
              clear HG
              obtain ⟨c, co, cq, hc, rfl, rfl, HC⟩ := hrel
              have hbel := Foot.bel HC.out
              have c256d : wr.cell? ⟨w.heap.size, 256, none⟩ = some (.slice (some ⟨bn, offn, none⟩) N nc) := cell_bel hbel HWL.out (by rw [Lib.cell_of_heap HX.out, HD256.out, HNN.out.1])
              have cnf : wr.cell? ⟨bn, offn + f, none⟩ = some (.slice ro Kk rc) := cell_bel hbel HCN.out.1 HCN.out.2
              have k2 : (f : Int) < (N : Int) := by omega
              have k3 : (0 : Int) ≤ (f : Int) := by omega
              by_cases hlc : c < Kk
              · have g1 : (c : Int) < (Kk : Int) := by omega
                have g2 : (0 : Int) ≤ (c : Int) := by omega
                obtain ⟨z, hz⟩ : ∃ z, (X5.rowOf D f)[c]? = some z := ⟨_, List.getElem?_eq_getElem (by rw [HRW.out.2]; exact hlc)⟩
                obtain ⟨bz, offz, hro, hbz, cz⟩ := rowAt_get HRW.out.1 hz
                subst hro
                have hzb := HOK.out.ends f (by rw [HNN.out.1]; exact hfN) z (List.mem_of_getElem? hz)
                rw [HNN.out.1] at hzb
                have cz' := cell_bel hbel hbz cz
                have HZ := hid (map_snoc (X6.oth N) hz)
                clear hz cz hbel
                by_cases hz0 : 0 < z
                · have HY := hid (show X6.oth N z = (N : Int) - z from by unfold X6.oth; rw [if_pos hz0])
                  obtain ⟨w10, e10⟩ : ∃ w10, wr.alloc (.cells #[.int .i64 ((N : Int) - z)] 3) = w10 := ⟨_, rfl⟩
                  have hb10 : Below wr.heap.size wr w10 := by rw [← e10]; exact (Below.refl _ _).alloc (Nat.le_refl _) _
                  have HN10 := hid (show w10.heap[wr.heap.size]? = some (.cells #[.int .i64 ((N : Int) - z)] 3 (0, 0)) from by rw [← e10]; exact new_block _ _)
                  have hg4 := HC.out.below hb10
                  have hlR : (((X5.rowOf D f).take c).map (X6.oth N)).length = c := by rw [List.length_map, List.length_take, HRW.out.2]; omega
                  obtain ⟨R, hR⟩ : ∃ R, ((X5.rowOf D f).take c).map (X6.oth N) = R := ⟨_, rfl⟩
                  rw [hR] at hg4 hlR
                  have hrow4 := hg4.rowAt
                  rw [hlR] at hrow4
                  have HO4 := hid hrow4
                  have HG4 := hid hg4
                  have HLR := hid (And.intro hlR hR)
                  have hB4 := HG4.out.leB
                  clear hb10 hrow4 hlR hg4 hR
                  go_wp2_with (at_builtin; refine wpList_push1 rfl (.tmp 68) (.tmp 70) 56 3 rfl (.int .i64 0) 8 Tryd.underlying56 info3 rfl (by decide) w3.heap.size (.slice co c cq) c (zs R) rfl HO4.out wr.heap.size rfl (.int .i64 ((N : Int) - z)) HN10.out rfl (by omega) hB4 ?_)
                  intro v11 w11 hown11 hg11 hat11
                  obtain ⟨so11, sc11, rfl⟩ := own_shape hown11
                  have HG5 := hid (HG4.out.push (z := (N : Int) - z) (by rw [HLR.out.1]; exact hown11) hg11 hat11)
                  clear hown11 hg11 hat11 e10
                  go_wp2_with fail
                  refine ⟨⟨c + 1, so11, sc11, by omega, rfl, rfl, hid ?_⟩, ?_⟩
                  · rw [HZ.out, HY.out, HLR.out.2]
                    exact HG5.out
                  · show Kk - ((c : Int) + 1).toNat < Kk - ((c : Int)).toNat
                    omega
                · have HY := hid (show X6.oth N z = z from by unfold X6.oth; rw [if_neg hz0])
                  obtain ⟨w10, e10⟩ : ∃ w10, wr.alloc (.cells #[.int .i64 (z)] 3) = w10 := ⟨_, rfl⟩
                  have hb10 : Below wr.heap.size wr w10 := by rw [← e10]; exact (Below.refl _ _).alloc (Nat.le_refl _) _
                  have HN10 := hid (show w10.heap[wr.heap.size]? = some (.cells #[.int .i64 (z)] 3 (0, 0)) from by rw [← e10]; exact new_block _ _)
                  have hg4 := HC.out.below hb10
                  have hlR : (((X5.rowOf D f).take c).map (X6.oth N)).length = c := by rw [List.length_map, List.length_take, HRW.out.2]; omega
                  obtain ⟨R, hR⟩ : ∃ R, ((X5.rowOf D f).take c).map (X6.oth N) = R := ⟨_, rfl⟩
                  rw [hR] at hg4 hlR
                  have hrow4 := hg4.rowAt
                  rw [hlR] at hrow4
                  have HO4 := hid hrow4
                  have HG4 := hid hg4
                  have HLR := hid (And.intro hlR hR)
                  have hB4 := HG4.out.leB
                  clear hb10 hrow4 hlR hg4 hR
                  go_wp2_with (at_builtin; refine wpList_push1 rfl (.tmp 68) (.tmp 70) 56 3 rfl (.int .i64 0) 8 Tryd.underlying56 info3 rfl (by decide) w3.heap.size (.slice co c cq) c (zs R) rfl HO4.out wr.heap.size rfl (.int .i64 (z)) HN10.out rfl (by omega) hB4 ?_)
                  intro v11 w11 hown11 hg11 hat11
                  obtain ⟨so11, sc11, rfl⟩ := own_shape hown11
                  have HG5 := hid (HG4.out.push (z := z) (by rw [HLR.out.1]; exact hown11) hg11 hat11)
                  clear hown11 hg11 hat11 e10
                  go_wp2_with fail
                  refine ⟨⟨c + 1, so11, sc11, by omega, rfl, rfl, hid ?_⟩, ?_⟩
                  · rw [HZ.out, HY.out, HLR.out.2]
                    exact HG5.out
                  · show Kk - ((c : Int) + 1).toNat < Kk - ((c : Int)).toNat
                    omega
              · obtain rfl : Kk = c := by omega
                have g1 : ¬ (Kk : Int) < (Kk : Int) := by omega
                have hrT : (((X5.rowOf D f).take Kk).map (X6.oth N)) = X6.rowT D i := by
                  unfold X6.rowT
                  rw [HI.out.1, HNN.out.1, List.take_of_length_le (by rw [HRW.out.2]; omega)]
                have hg2 := HC.out
                rw [hrT] at hg2
                have h256 := hg2.c256 HCV.out.2.1
                have c256 := h256.1
                have l256 := h256.2.2
                have hCVl : CV.length ≤ 1000000 := by have := HI.out.2; omega
                obtain ⟨w11, e11⟩ : ∃ w11, wr.alloc (.cells #[.slice co Kk cq] 56) = w11 := ⟨_, rfl⟩
                have hb11 : Below wr.heap.size wr w11 := by rw [← e11]; exact (Below.refl _ _).alloc (Nat.le_refl _) _
                have HN11 := hid (show w11.heap[wr.heap.size]? = some (.cells #[.slice co Kk cq] 56 (0, 0)) from by rw [← e11]; exact new_block _ _)
                have HG11 := hid (hg2.below hb11)
                have HNX := hid HG11.out.nx.row
                have hB11 := HG11.out.leB
                clear hg2 hb11 h256 hrT hbel
                go_wp2_with (at_builtin; refine wpList_push1 rfl (.tmp 73) (.tmp 75) 27 56 rfl nil1 24 Tryd.underlying27 info56 rfl (by decide) w3.heap.size (.slice ndo CV.length ndc) CV.length CV rfl HNX.out wr.heap.size rfl (.slice co Kk cq) HN11.out rfl hCVl hB11 ?_)
                intro v12 w12 hown12 hg12 hat12
                obtain ⟨no12, nc12, rfl⟩ := own_shape hown12
                obtain ⟨hbk12, hG12⟩ := HG11.out.next HCV.out.2.1 (by rw [HI.out.2]; simp) hown12 hg12 hat12
                have c256b : w12.cell? ⟨w3.heap.size, 256, none⟩ = some (.slice ndo CV.length ndc) := by rw [Lib.cell_of_heap hbk12, Array.getElem?_append_right (by rw [HCV.out.2.1]; omega), HCV.out.2.1]; rfl
                have f256b := Lib.frozen_of_heap hbk12 256
                have l256b := (Array.getElem?_eq_some_iff.1 hbk12).1
                obtain ⟨w13, e13⟩ : ∃ w13, w12.setCell ⟨w3.heap.size, 256, none⟩ (.slice no12 (CV.length + 1) nc12) = w13 := ⟨_, rfl⟩
                rw [e13] at hG12
                obtain ⟨we, ewe⟩ : ∃ we, w13.drew = we := ⟨_, rfl⟩
                have hbe : Below w13.heap.size w13 we := by rw [← ewe]; exact (Below.refl _ _).drew
                have HGE := hid (hG12.below hbe)
                have hbelE := Foot.bel HGE.out
                obtain ⟨tt, htt⟩ : ∃ tt, D.tags[f]? = some tt := ⟨_, List.getElem?_eq_getElem (by rw [HNN.out.2.2]; exact hfN)⟩
                obtain ⟨bt, offt, tc', hto, hbt, ct, ht64⟩ := tagsAt_get HDA.out.tags htt
                injection hto with hto1 hto2 hto3
                subst hto1
                have h257 := HGE.out.c256 HCV.out.2.1
                have HH3 : we.cell? ⟨w3.heap.size, 257, none⟩ = some (.slice tdo i tdc) ∧ we.cell? ⟨w.heap.size, 257, none⟩ = some (.slice (some ⟨bt, offt, none⟩) D.tags.length tc) ∧ we.cell? ⟨bt, offt + f, none⟩ = some (.int .u64 (tt : Int)) ∧ w3.heap.size < we.heap.size :=
                  ⟨h257.2.1, cell_bel hbelE HWL.out (by rw [Lib.cell_of_heap HX.out]; exact HD257.out), cell_bel hbelE hbt ct, h257.2.2⟩
                have k5 : (f : Int) < (D.tags.length : Int) := by have := HNN.out.2.2; omega
                have k5n : f < D.tags.length := by have := HNN.out.2.2; omega
                have HTL := hid (show i ≤ 1000000 from by omega)
                have HTT := hid (And.intro htt ht64)
                have HBT := hid hbt
                clear hown12 hg12 hat12 hbk12 hG12 hbe hbelE hto2 hto3 h257 ct htt e11 c256 l256 c256d cnf
                go_wp2_with fail
                refine region_T 10 (fun w' => w'.cell? ⟨w3.heap.size, 257, none⟩ = some (.slice tdo i tdc) ∧ w'.cell? ⟨w.heap.size, 257, none⟩ = some (.slice (some ⟨bt, offt, none⟩) D.tags.length tc) ∧ w'.cell? ⟨bt, offt + f, none⟩ = some (.int .u64 (tt : Int)) ∧ w3.heap.size < w'.heap.size) (by kernel_rfl) (by rw [ewe]; exact HH3) (fun inv hHeld => ?_)
                rw [ewe]
                clear hHeld ewe e13
                refine anyT_take (i := 0) (oi := { dst := some 78, op := Go.Op.fieldAddr 30 (Go.Operand.tmp 6) 2, type := 0, pos := "law.go:177", after := #[], guard := none }) (v := ?_) rfl (by kernel_rfl) (by kernel_rfl) (by kernel_rfl) (by decide) (by decide) (by kernel_rfl) (by kernel_rfl) (fun _ _ _ h => h) (Or.inl ⟨by rfl, ?_⟩) HH3 inv (fun inv => ?_)
                rotate_left
                · intro w hSw
                  try dsimp only at hSw
                  go_simp
                  try with_reducible rfl
                simp only [Act.put, List.setIfInBounds_toArray, List.set_cons_zero, List.set_cons_succ]
                refine anyT_take (i := 1) (oi := { dst := some 79, op := Go.Op.load 28 (Go.Operand.tmp 78), type := 28, pos := "law.go:177", after := #[{ on := 0, ground := Go.Ground.data }], guard := none }) (v := ?_) rfl (by kernel_rfl) (by kernel_rfl) (by kernel_rfl) (by decide) (by decide) (by kernel_rfl) (by kernel_rfl) (fun _ _ _ h => h) (Or.inl ⟨by rfl, ?_⟩) HH3 inv (fun inv => ?_)
                rotate_left
                · intro w hSw
                  try dsimp only at hSw
                  go_simp
                  try with_reducible rfl
                simp only [Act.put, List.setIfInBounds_toArray, List.set_cons_zero, List.set_cons_succ]
                refine anyT_take (i := 2) (oi := { dst := some 80, op := Go.Op.fieldAddr 30 (Go.Operand.tmp 1) 2, type := 0, pos := "law.go:177", after := #[], guard := none }) (v := ?_) rfl (by kernel_rfl) (by kernel_rfl) (by kernel_rfl) (by decide) (by decide) (by kernel_rfl) (by kernel_rfl) (fun _ _ _ h => h) (Or.inl ⟨by rfl, ?_⟩) HH3 inv (fun inv => ?_)
                rotate_left
                · intro w hSw
                  try dsimp only at hSw
                  go_simp
                  try with_reducible rfl
                simp only [Act.put, List.setIfInBounds_toArray, List.set_cons_zero, List.set_cons_succ]
                refine anyT_take (i := 3) (oi := { dst := some 81, op := Go.Op.load 28 (Go.Operand.tmp 80), type := 28, pos := "law.go:177", after := #[{ on := 2, ground := Go.Ground.data }], guard := none }) (v := ?_) rfl (by kernel_rfl) (by kernel_rfl) (by kernel_rfl) (by decide) (by decide) (by kernel_rfl) (by kernel_rfl) (fun _ _ _ h => h) (Or.inl ⟨by rfl, ?_⟩) HH3 inv (fun inv => ?_)
                rotate_left
                · intro w hSw
                  try dsimp only at hSw
                  go_simp
                  try with_reducible rfl
                simp only [Act.put, List.setIfInBounds_toArray, List.set_cons_zero, List.set_cons_succ]
                refine anyT_take (i := 4) (oi := { dst := some 82, op := Go.Op.move (Go.Operand.tmp 8), type := 3, pos := "law.go:177", after := #[], guard := none }) (v := ?_) rfl (by kernel_rfl) (by kernel_rfl) (by kernel_rfl) (by decide) (by decide) (by kernel_rfl) (by kernel_rfl) (fun _ _ _ h => h) (Or.inl ⟨by rfl, ?_⟩) HH3 inv (fun inv => ?_)
                rotate_left
                · intro w hSw
                  try dsimp only at hSw
                  go_simp
                  try with_reducible rfl
                simp only [Act.put, List.setIfInBounds_toArray, List.set_cons_zero, List.set_cons_succ]
                refine anyT_take (i := 5) (oi := { dst := some 83, op := Go.Op.indexAddr 28 (Go.Operand.tmp 81) (Go.Operand.tmp 82), type := 0, pos := "law.go:177", after := #[{ on := 3, ground := Go.Ground.data }, { on := 4, ground := Go.Ground.data }], guard := none }) (v := ?_) rfl (by kernel_rfl) (by kernel_rfl) (by kernel_rfl) (by decide) (by decide) (by kernel_rfl) (by kernel_rfl) (fun _ _ _ h => h) (Or.inl ⟨by rfl, ?_⟩) HH3 inv (fun inv => ?_)
                rotate_left
                · intro w hSw
                  try dsimp only at hSw
                  go_simp
                  try with_reducible rfl
                simp only [Act.put, List.setIfInBounds_toArray, List.set_cons_zero, List.set_cons_succ]
                refine anyT_take (i := 6) (oi := { dst := some 84, op := Go.Op.load 43 (Go.Operand.tmp 83), type := 43, pos := "law.go:177", after := #[{ on := 5, ground := Go.Ground.data }], guard := none }) (v := ?_) rfl (by kernel_rfl) (by kernel_rfl) (by kernel_rfl) (by decide) (by decide) (by kernel_rfl) (by kernel_rfl) (fun _ _ _ h => h) (Or.inl ⟨by rfl, ?_⟩) HH3 inv (fun inv => ?_)
                rotate_left
                · intro w hSw
                  try dsimp only at hSw
                  go_simp
                  try with_reducible rfl
                simp only [Act.put, List.setIfInBounds_toArray, List.set_cons_zero, List.set_cons_succ]
                obtain ⟨w16, e16⟩ : ∃ w16, we.alloc (.cells #[.int .u64 (tt : Int)] 43) = w16 := ⟨_, rfl⟩
                have hb16 : Below we.heap.size we w16 := by rw [← e16]; exact (Below.refl _ _).alloc (Nat.le_refl _) _
                have HN16 := hid (show w16.heap[we.heap.size]? = some (.cells #[.int .u64 (tt : Int)] 43 (0, 0)) from by rw [← e16]; exact new_block _ _)
                have HG16 := hid (HGE.out.below hb16)
                have HH4 := cells3 hb16 HH3
                clear hb16
                refine anyT_next (i := 7) (o := { dst := some 85, op := Go.Op.buildSlice 28 1 #[(0, Go.Operand.tmp 84)], type := 28, pos := "law.go:177", after := #[{ on := 6, ground := Go.Ground.data }], guard := none }) (by kernel_rfl) rfl (by decide) inv (fun inv K' hK => ?_)
                go_simp
                refine hK.out _ _ HH4 ?_
                clear hK K' HH3
                try simp only [Act.put, List.setIfInBounds_toArray, List.set_cons_zero, List.set_cons_succ]
                refine anyT_next (i := 8) (o := { dst := some 86, op := Go.Op.call { callee := Go.Callee.builtin Go.Builtin.append, args := #[Go.Operand.tmp 79, Go.Operand.tmp 85], argTypes := #[28, 28] }, type := 28, pos := "law.go:177", after := #[{ on := 1, ground := Go.Ground.data }, { on := 7, ground := Go.Ground.data }], guard := none }) (by kernel_rfl) rfl (by decide) inv (fun inv K' hK => ?_)
                simp only [Region.wanted]
                rw [if_pos trivial]
                refine wp_push1 (.tmp 79) (.tmp 85) 28 43 rfl (.int .u64 0) 8 Tryd.underlying28 info43 rfl (by decide) w3.heap.size (.slice tdo i tdc) i (u64s ((List.range i).map (X6.tagT D))) rfl (tgo HG16.out) we.heap.size rfl (.int .u64 (tt : Int)) HN16.out rfl HTL.out HG16.out.leB ?_
                intro v17 w17 hown17 hg17 hat17
                obtain ⟨tgo', tgc, rfl⟩ := own_shape hown17
                have HT17 := hid (HG16.out.tag HCV.out.2.1 (by rw [List.length_map, List.length_range]; exact hown17) hg17 hat17)
                have c257b : w17.cell? ⟨w3.heap.size, 257, none⟩ = some (.slice tdo i tdc) := by rw [Lib.cell_of_heap HT17.out.1, Array.getElem?_append_right (by rw [HCV.out.2.1]; omega), HCV.out.2.1]; rfl
                have f257b := Lib.frozen_of_heap HT17.out.1 257
                have l257b := (Array.getElem?_eq_some_iff.1 HT17.out.1).1
                have hot : ∀ g : Nat, g < w3.heap.size → w17.heap[g]? = w16.heap[g]? := fun g hg => hg17.block g (by have := HG16.out.leB; omega) (fun e => by have := (owns_lt HG16.out.tg g e.symm).1; omega)
                have HH5 : w17.cell? ⟨w3.heap.size, 257, none⟩ = some (.slice tdo i tdc) ∧ w17.cell? ⟨w.heap.size, 257, none⟩ = some (.slice (some ⟨bt, offt, none⟩) D.tags.length tc) ∧ w17.cell? ⟨bt, offt + f, none⟩ = some (.int .u64 (tt : Int)) ∧ w3.heap.size < w17.heap.size :=
                  ⟨c257b, (World.cell?_of_block (a := ⟨w.heap.size, 257, none⟩) (hot _ HWL.out)).trans HH4.2.1, (World.cell?_of_block (a := ⟨bt, offt + f, none⟩) (hot _ HBT.out)).trans HH4.2.2.1, l257b⟩
                clear hown17 hg17 hat17 hot
                refine hK.out _ _ HH5 ?_
                clear hK K' HH4
                try simp only [Act.put, List.setIfInBounds_toArray, List.set_cons_zero, List.set_cons_succ]
                refine anyT_take (i := 9) (oi := { dst := some 87, op := Go.Op.fieldAddr 30 (Go.Operand.tmp 6) 2, type := 0, pos := "law.go:177", after := #[{ on := 0, ground := Go.Ground.phase }, { on := 1, ground := Go.Ground.phase }, { on := 2, ground := Go.Ground.phase }, { on := 3, ground := Go.Ground.phase }, { on := 4, ground := Go.Ground.phase }, { on := 5, ground := Go.Ground.phase }, { on := 6, ground := Go.Ground.phase }, { on := 7, ground := Go.Ground.phase }, { on := 8, ground := Go.Ground.phase }], guard := none }) (v := ?_) rfl (by kernel_rfl) (by kernel_rfl) (by kernel_rfl) (by decide) (by decide) (by kernel_rfl) (by kernel_rfl) (fun _ _ _ h => h) (Or.inl ⟨by rfl, ?_⟩) HH5 inv (fun inv => ?_)
                rotate_left
                · intro w hSw
                  try dsimp only at hSw
                  go_simp
                  try with_reducible rfl
                simp only [Act.put, List.setIfInBounds_toArray, List.set_cons_zero, List.set_cons_succ]
                refine anyT_one (i := 10) (o := { dst := none, op := Go.Op.store 28 (Go.Operand.tmp 87) (Go.Operand.tmp 86), type := 0, pos := "law.go:177", after := #[{ on := 9, ground := Go.Ground.data }, { on := 8, ground := Go.Ground.data }, { on := 8, ground := Go.Ground.chain }, { on := 0, ground := Go.Ground.phase }, { on := 1, ground := Go.Ground.phase }, { on := 2, ground := Go.Ground.phase }, { on := 3, ground := Go.Ground.phase }, { on := 4, ground := Go.Ground.phase }, { on := 5, ground := Go.Ground.phase }, { on := 6, ground := Go.Ground.phase }, { on := 7, ground := Go.Ground.phase }, { on := 8, ground := Go.Ground.phase }], guard := none }) (by kernel_rfl) rfl (fun K' hK => ?_)
                go_simp
                refine hK.out _ _ (fun h => absurd h (by decide)) ?_
                clear hK K'
                try simp only [Act.put, List.setIfInBounds_toArray, List.set_cons_zero, List.set_cons_succ]
                refine anyT_done (by kernel_rfl) ?_ _
                go_wp2_with fail
                refine ⟨⟨i + 1, by omega, rfl, hid ⟨.slice no12 (CV.length + 1) nc12, CV ++ [.slice co Kk cq], .slice tgo' (i + 1) tgc, by rw [List.length_append, HI.out.2]; rfl, ?_⟩⟩, ?_⟩
                · have e1 : (List.range (i + 1)).map (X6.rowT D) = (List.range i).map (X6.rowT D) ++ [X6.rowT D i] := by rw [List.range_succ, List.map_append]; rfl
                  have e2 : (List.range (i + 1)).map (X6.tagT D) = (List.range i).map (X6.tagT D) ++ [tt] := by
                    rw [List.range_succ, List.map_append]
                    have : X6.tagT D i = tt := by
                      unfold X6.tagT
                      rw [HI.out.1, List.getD_eq_getElem?_getD, HTT.out.1]; rfl
                    rw [List.map_singleton, this]
                  rw [e1, e2]
                  exact HT17.out.2
                · show N - (((i : Nat) : Int) + 1).toNat < N - (((i : Nat) : Int)).toNat
                  omega
          · obtain rfl : i = 0 := by omega
            obtain rfl : f = 0 := by rw [← HI.out.1, HNO.out, if_neg h0]
            have gd : decide ((0 : Nat) < 0) = false := by decide
            have gd2 : decide ((0 : Int) < 0) = false := by decide
            clear h0 HNO
            simp only [show ((0 : Nat) : Int) = 0 from rfl]
            go_wp2_with fail
            try simp only [gd, gd2]
            clear gd gd2
            go_loopw [9, 10] (fun t9 t10 wr => ∃ (c : Nat) (o : Option Addr) (cq : Nat), c ≤ Kk ∧ t10 = .int .i64 (c : Int) ∧ t9 = .slice o c cq ∧ Hid (GO w3.heap.size w3.heap.size cv w3 (.slice o c cq) (((X5.rowOf D 0).take c).map (X6.oth N)) (.slice ndo CV.length ndc) CV ((List.range 0).map (X6.rowT D)) (.slice tdo 0 tdc) ((List.range 0).map (X6.tagT D)) wr)) (fun _ t10 _ => Kk - (RowKit.intOf t10).toNat)
            case atStart => exact ⟨0, none, 0, Nat.zero_le _, rfl, rfl, HG⟩
            case round =>
              clear HG
              obtain ⟨c, co, cq, hc, rfl, rfl, HC⟩ := hrel
              have hbel := Foot.bel HC.out
              have c256d : wr.cell? ⟨w.heap.size, 256, none⟩ = some (.slice (some ⟨bn, offn, none⟩) N nc) := cell_bel hbel HWL.out (by rw [Lib.cell_of_heap HX.out, HD256.out, HNN.out.1])
              have cnf : wr.cell? ⟨bn, offn, none⟩ = some (.slice ro Kk rc) := cell_bel hbel HCN.out.1 HCN.out.2
              have k2 : (0 : Int) < (N : Int) := by omega
              have k3 : (0 : Int) ≤ (0 : Int) := by omega
              by_cases hlc : c < Kk
              · have g1 : (c : Int) < (Kk : Int) := by omega
                have g2 : (0 : Int) ≤ (c : Int) := by omega
                obtain ⟨z, hz⟩ : ∃ z, (X5.rowOf D 0)[c]? = some z := ⟨_, List.getElem?_eq_getElem (by rw [HRW.out.2]; exact hlc)⟩
                obtain ⟨bz, offz, hro, hbz, cz⟩ := rowAt_get HRW.out.1 hz
                subst hro
                have hzb := HOK.out.ends 0 (by rw [HNN.out.1]; exact hfN) z (List.mem_of_getElem? hz)
                rw [HNN.out.1] at hzb
                have cz' := cell_bel hbel hbz cz
                have HZ := hid (map_snoc (X6.oth N) hz)
                clear hz cz hbel
                by_cases hz0 : 0 < z
                · have HY := hid (show X6.oth N z = (N : Int) - z from by unfold X6.oth; rw [if_pos hz0])
                  obtain ⟨w10, e10⟩ : ∃ w10, wr.alloc (.cells #[.int .i64 ((N : Int) - z)] 3) = w10 := ⟨_, rfl⟩
                  have hb10 : Below wr.heap.size wr w10 := by rw [← e10]; exact (Below.refl _ _).alloc (Nat.le_refl _) _
                  have HN10 := hid (show w10.heap[wr.heap.size]? = some (.cells #[.int .i64 ((N : Int) - z)] 3 (0, 0)) from by rw [← e10]; exact new_block _ _)
                  have hg4 := HC.out.below hb10
                  have hlR : (((X5.rowOf D 0).take c).map (X6.oth N)).length = c := by rw [List.length_map, List.length_take, HRW.out.2]; omega
                  obtain ⟨R, hR⟩ : ∃ R, ((X5.rowOf D 0).take c).map (X6.oth N) = R := ⟨_, rfl⟩
                  rw [hR] at hg4 hlR
                  have hrow4 := hg4.rowAt
                  rw [hlR] at hrow4
                  have HO4 := hid hrow4
                  have HG4 := hid hg4
                  have HLR := hid (And.intro hlR hR)
                  have hB4 := HG4.out.leB
                  clear hb10 hrow4 hlR hg4 hR
                  go_wp2_with (at_builtin; refine wpList_push1 rfl (.tmp 68) (.tmp 70) 56 3 rfl (.int .i64 0) 8 Tryd.underlying56 info3 rfl (by decide) w3.heap.size (.slice co c cq) c (zs R) rfl HO4.out wr.heap.size rfl (.int .i64 ((N : Int) - z)) HN10.out rfl (by omega) hB4 ?_)
                  intro v11 w11 hown11 hg11 hat11
                  obtain ⟨so11, sc11, rfl⟩ := own_shape hown11
                  have HG5 := hid (HG4.out.push (z := (N : Int) - z) (by rw [HLR.out.1]; exact hown11) hg11 hat11)
                  clear hown11 hg11 hat11 e10
                  go_wp2_with fail
                  refine ⟨⟨c + 1, so11, sc11, by omega, rfl, rfl, hid ?_⟩, ?_⟩
                  · rw [HZ.out, HY.out, HLR.out.2]
                    exact HG5.out
                  · show Kk - ((c : Int) + 1).toNat < Kk - ((c : Int)).toNat
                    omega
                · have HY := hid (show X6.oth N z = z from by unfold X6.oth; rw [if_neg hz0])
                  obtain ⟨w10, e10⟩ : ∃ w10, wr.alloc (.cells #[.int .i64 (z)] 3) = w10 := ⟨_, rfl⟩
                  have hb10 : Below wr.heap.size wr w10 := by rw [← e10]; exact (Below.refl _ _).alloc (Nat.le_refl _) _
                  have HN10 := hid (show w10.heap[wr.heap.size]? = some (.cells #[.int .i64 (z)] 3 (0, 0)) from by rw [← e10]; exact new_block _ _)
                  have hg4 := HC.out.below hb10
                  have hlR : (((X5.rowOf D 0).take c).map (X6.oth N)).length = c := by rw [List.length_map, List.length_take, HRW.out.2]; omega
                  obtain ⟨R, hR⟩ : ∃ R, ((X5.rowOf D 0).take c).map (X6.oth N) = R := ⟨_, rfl⟩
                  rw [hR] at hg4 hlR
                  have hrow4 := hg4.rowAt
                  rw [hlR] at hrow4
                  have HO4 := hid hrow4
                  have HG4 := hid hg4
                  have HLR := hid (And.intro hlR hR)
                  have hB4 := HG4.out.leB
                  clear hb10 hrow4 hlR hg4 hR
                  go_wp2_with (at_builtin; refine wpList_push1 rfl (.tmp 68) (.tmp 70) 56 3 rfl (.int .i64 0) 8 Tryd.underlying56 info3 rfl (by decide) w3.heap.size (.slice co c cq) c (zs R) rfl HO4.out wr.heap.size rfl (.int .i64 (z)) HN10.out rfl (by omega) hB4 ?_)
                  intro v11 w11 hown11 hg11 hat11
                  obtain ⟨so11, sc11, rfl⟩ := own_shape hown11
                  have HG5 := hid (HG4.out.push (z := z) (by rw [HLR.out.1]; exact hown11) hg11 hat11)
                  clear hown11 hg11 hat11 e10
                  go_wp2_with fail
                  refine ⟨⟨c + 1, so11, sc11, by omega, rfl, rfl, hid ?_⟩, ?_⟩
                  · rw [HZ.out, HY.out, HLR.out.2]
                    exact HG5.out
                  · show Kk - ((c : Int) + 1).toNat < Kk - ((c : Int)).toNat
                    omega
              · obtain rfl : Kk = c := by omega
                have g1 : ¬ (Kk : Int) < (Kk : Int) := by omega
                have hrT : (((X5.rowOf D 0).take Kk).map (X6.oth N)) = X6.rowT D 0 := by
                  unfold X6.rowT
                  rw [HI.out.1, HNN.out.1, List.take_of_length_le (by rw [HRW.out.2]; omega)]
                have hg2 := HC.out
                rw [hrT] at hg2
                have h256 := hg2.c256 HCV.out.2.1
                have c256 := h256.1
                have l256 := h256.2.2
                have hCVl : CV.length ≤ 1000000 := by have := HI.out.2; omega
                obtain ⟨w11, e11⟩ : ∃ w11, wr.alloc (.cells #[.slice co Kk cq] 56) = w11 := ⟨_, rfl⟩
                have hb11 : Below wr.heap.size wr w11 := by rw [← e11]; exact (Below.refl _ _).alloc (Nat.le_refl _) _
                have HN11 := hid (show w11.heap[wr.heap.size]? = some (.cells #[.slice co Kk cq] 56 (0, 0)) from by rw [← e11]; exact new_block _ _)
                have HG11 := hid (hg2.below hb11)
                have HNX := hid HG11.out.nx.row
                have hB11 := HG11.out.leB
                clear hg2 hb11 h256 hrT hbel
                go_wp2_with (at_builtin; refine wpList_push1 rfl (.tmp 73) (.tmp 75) 27 56 rfl nil1 24 Tryd.underlying27 info56 rfl (by decide) w3.heap.size (.slice ndo CV.length ndc) CV.length CV rfl HNX.out wr.heap.size rfl (.slice co Kk cq) HN11.out rfl hCVl hB11 ?_)
                intro v12 w12 hown12 hg12 hat12
                obtain ⟨no12, nc12, rfl⟩ := own_shape hown12
                obtain ⟨hbk12, hG12⟩ := HG11.out.next HCV.out.2.1 (by rw [HI.out.2]; simp) hown12 hg12 hat12
                have c256b : w12.cell? ⟨w3.heap.size, 256, none⟩ = some (.slice ndo CV.length ndc) := by rw [Lib.cell_of_heap hbk12, Array.getElem?_append_right (by rw [HCV.out.2.1]; omega), HCV.out.2.1]; rfl
                have f256b := Lib.frozen_of_heap hbk12 256
                have l256b := (Array.getElem?_eq_some_iff.1 hbk12).1
                obtain ⟨w13, e13⟩ : ∃ w13, w12.setCell ⟨w3.heap.size, 256, none⟩ (.slice no12 (CV.length + 1) nc12) = w13 := ⟨_, rfl⟩
                rw [e13] at hG12
                obtain ⟨we, ewe⟩ : ∃ we, w13.drew = we := ⟨_, rfl⟩
                have hbe : Below w13.heap.size w13 we := by rw [← ewe]; exact (Below.refl _ _).drew
                have HGE := hid (hG12.below hbe)
                have hbelE := Foot.bel HGE.out
                obtain ⟨tt, htt⟩ : ∃ tt, D.tags[0]? = some tt := ⟨_, List.getElem?_eq_getElem (by rw [HNN.out.2.2]; exact hfN)⟩
                obtain ⟨bt, offt, tc', hto, hbt, ct, ht64⟩ := tagsAt_get HDA.out.tags htt
                injection hto with hto1 hto2 hto3
                subst hto1
                have h257 := HGE.out.c256 HCV.out.2.1
                have HH3 : we.cell? ⟨w3.heap.size, 257, none⟩ = some (.slice tdo 0 tdc) ∧ we.cell? ⟨w.heap.size, 257, none⟩ = some (.slice (some ⟨bt, offt, none⟩) D.tags.length tc) ∧ we.cell? ⟨bt, offt, none⟩ = some (.int .u64 (tt : Int)) ∧ w3.heap.size < we.heap.size :=
                  ⟨h257.2.1, cell_bel hbelE HWL.out (by rw [Lib.cell_of_heap HX.out]; exact HD257.out), cell_bel hbelE hbt ct, h257.2.2⟩
                have k5 : (0 : Int) < (D.tags.length : Int) := by have := HNN.out.2.2; omega
                have k5n : 0 < D.tags.length := by have := HNN.out.2.2; omega
                have HTL := hid (show 0 ≤ 1000000 from by omega)
                have HTT := hid (And.intro htt ht64)
                have HBT := hid hbt
                clear hown12 hg12 hat12 hbk12 hG12 hbe hbelE hto2 hto3 h257 ct htt e11 c256 l256 c256d cnf
                go_wp2_with fail
                refine region_T 10 (fun w' => w'.cell? ⟨w3.heap.size, 257, none⟩ = some (.slice tdo 0 tdc) ∧ w'.cell? ⟨w.heap.size, 257, none⟩ = some (.slice (some ⟨bt, offt, none⟩) D.tags.length tc) ∧ w'.cell? ⟨bt, offt, none⟩ = some (.int .u64 (tt : Int)) ∧ w3.heap.size < w'.heap.size) (by kernel_rfl) (by rw [ewe]; exact HH3) (fun inv hHeld => ?_)
                rw [ewe]
                clear hHeld ewe e13
                refine anyT_take (i := 0) (oi := { dst := some 78, op := Go.Op.fieldAddr 30 (Go.Operand.tmp 6) 2, type := 0, pos := "law.go:177", after := #[], guard := none }) (v := ?_) rfl (by kernel_rfl) (by kernel_rfl) (by kernel_rfl) (by decide) (by decide) (by kernel_rfl) (by kernel_rfl) (fun _ _ _ h => h) (Or.inl ⟨by rfl, ?_⟩) HH3 inv (fun inv => ?_)
                rotate_left
                · intro w hSw
                  try dsimp only at hSw
                  go_simp
                  try with_reducible rfl
                simp only [Act.put, List.setIfInBounds_toArray, List.set_cons_zero, List.set_cons_succ]
                refine anyT_take (i := 1) (oi := { dst := some 79, op := Go.Op.load 28 (Go.Operand.tmp 78), type := 28, pos := "law.go:177", after := #[{ on := 0, ground := Go.Ground.data }], guard := none }) (v := ?_) rfl (by kernel_rfl) (by kernel_rfl) (by kernel_rfl) (by decide) (by decide) (by kernel_rfl) (by kernel_rfl) (fun _ _ _ h => h) (Or.inl ⟨by rfl, ?_⟩) HH3 inv (fun inv => ?_)
                rotate_left
                · intro w hSw
                  try dsimp only at hSw
                  go_simp
                  try with_reducible rfl
                simp only [Act.put, List.setIfInBounds_toArray, List.set_cons_zero, List.set_cons_succ]
                refine anyT_take (i := 2) (oi := { dst := some 80, op := Go.Op.fieldAddr 30 (Go.Operand.tmp 1) 2, type := 0, pos := "law.go:177", after := #[], guard := none }) (v := ?_) rfl (by kernel_rfl) (by kernel_rfl) (by kernel_rfl) (by decide) (by decide) (by kernel_rfl) (by kernel_rfl) (fun _ _ _ h => h) (Or.inl ⟨by rfl, ?_⟩) HH3 inv (fun inv => ?_)
                rotate_left
                · intro w hSw
                  try dsimp only at hSw
                  go_simp
                  try with_reducible rfl
                simp only [Act.put, List.setIfInBounds_toArray, List.set_cons_zero, List.set_cons_succ]
                refine anyT_take (i := 3) (oi := { dst := some 81, op := Go.Op.load 28 (Go.Operand.tmp 80), type := 28, pos := "law.go:177", after := #[{ on := 2, ground := Go.Ground.data }], guard := none }) (v := ?_) rfl (by kernel_rfl) (by kernel_rfl) (by kernel_rfl) (by decide) (by decide) (by kernel_rfl) (by kernel_rfl) (fun _ _ _ h => h) (Or.inl ⟨by rfl, ?_⟩) HH3 inv (fun inv => ?_)
                rotate_left
                · intro w hSw
                  try dsimp only at hSw
                  go_simp
                  try with_reducible rfl
                simp only [Act.put, List.setIfInBounds_toArray, List.set_cons_zero, List.set_cons_succ]
                refine anyT_take (i := 4) (oi := { dst := some 82, op := Go.Op.move (Go.Operand.tmp 8), type := 3, pos := "law.go:177", after := #[], guard := none }) (v := ?_) rfl (by kernel_rfl) (by kernel_rfl) (by kernel_rfl) (by decide) (by decide) (by kernel_rfl) (by kernel_rfl) (fun _ _ _ h => h) (Or.inl ⟨by rfl, ?_⟩) HH3 inv (fun inv => ?_)
                rotate_left
                · intro w hSw
                  try dsimp only at hSw
                  go_simp
                  try with_reducible rfl
                simp only [Act.put, List.setIfInBounds_toArray, List.set_cons_zero, List.set_cons_succ]
                refine anyT_take (i := 5) (oi := { dst := some 83, op := Go.Op.indexAddr 28 (Go.Operand.tmp 81) (Go.Operand.tmp 82), type := 0, pos := "law.go:177", after := #[{ on := 3, ground := Go.Ground.data }, { on := 4, ground := Go.Ground.data }], guard := none }) (v := ?_) rfl (by kernel_rfl) (by kernel_rfl) (by kernel_rfl) (by decide) (by decide) (by kernel_rfl) (by kernel_rfl) (fun _ _ _ h => h) (Or.inl ⟨by rfl, ?_⟩) HH3 inv (fun inv => ?_)
                rotate_left
                · intro w hSw
                  try dsimp only at hSw
                  go_simp
                  try with_reducible rfl
                simp only [Act.put, List.setIfInBounds_toArray, List.set_cons_zero, List.set_cons_succ]
                refine anyT_take (i := 6) (oi := { dst := some 84, op := Go.Op.load 43 (Go.Operand.tmp 83), type := 43, pos := "law.go:177", after := #[{ on := 5, ground := Go.Ground.data }], guard := none }) (v := ?_) rfl (by kernel_rfl) (by kernel_rfl) (by kernel_rfl) (by decide) (by decide) (by kernel_rfl) (by kernel_rfl) (fun _ _ _ h => h) (Or.inl ⟨by rfl, ?_⟩) HH3 inv (fun inv => ?_)
                rotate_left
                · intro w hSw
                  try dsimp only at hSw
                  go_simp
                  try with_reducible rfl
                simp only [Act.put, List.setIfInBounds_toArray, List.set_cons_zero, List.set_cons_succ]
                obtain ⟨w16, e16⟩ : ∃ w16, we.alloc (.cells #[.int .u64 (tt : Int)] 43) = w16 := ⟨_, rfl⟩
                have hb16 : Below we.heap.size we w16 := by rw [← e16]; exact (Below.refl _ _).alloc (Nat.le_refl _) _
                have HN16 := hid (show w16.heap[we.heap.size]? = some (.cells #[.int .u64 (tt : Int)] 43 (0, 0)) from by rw [← e16]; exact new_block _ _)
                have HG16 := hid (HGE.out.below hb16)
                have HH4 := cells3 hb16 HH3
                clear hb16
                refine anyT_next (i := 7) (o := { dst := some 85, op := Go.Op.buildSlice 28 1 #[(0, Go.Operand.tmp 84)], type := 28, pos := "law.go:177", after := #[{ on := 6, ground := Go.Ground.data }], guard := none }) (by kernel_rfl) rfl (by decide) inv (fun inv K' hK => ?_)
                go_simp
                refine hK.out _ _ HH4 ?_
                clear hK K' HH3
                try simp only [Act.put, List.setIfInBounds_toArray, List.set_cons_zero, List.set_cons_succ]
                refine anyT_next (i := 8) (o := { dst := some 86, op := Go.Op.call { callee := Go.Callee.builtin Go.Builtin.append, args := #[Go.Operand.tmp 79, Go.Operand.tmp 85], argTypes := #[28, 28] }, type := 28, pos := "law.go:177", after := #[{ on := 1, ground := Go.Ground.data }, { on := 7, ground := Go.Ground.data }], guard := none }) (by kernel_rfl) rfl (by decide) inv (fun inv K' hK => ?_)
                simp only [Region.wanted]
                rw [if_pos trivial]
                refine wp_push1 (.tmp 79) (.tmp 85) 28 43 rfl (.int .u64 0) 8 Tryd.underlying28 info43 rfl (by decide) w3.heap.size (.slice tdo 0 tdc) 0 (u64s ((List.range 0).map (X6.tagT D))) rfl (tgo HG16.out) we.heap.size rfl (.int .u64 (tt : Int)) HN16.out rfl HTL.out HG16.out.leB ?_
                intro v17 w17 hown17 hg17 hat17
                obtain ⟨tgo', tgc, rfl⟩ := own_shape hown17
                have HT17 := hid (HG16.out.tag HCV.out.2.1 (by rw [List.length_map, List.length_range]; exact hown17) hg17 hat17)
                have c257b : w17.cell? ⟨w3.heap.size, 257, none⟩ = some (.slice tdo 0 tdc) := by rw [Lib.cell_of_heap HT17.out.1, Array.getElem?_append_right (by rw [HCV.out.2.1]; omega), HCV.out.2.1]; rfl
                have f257b := Lib.frozen_of_heap HT17.out.1 257
                have l257b := (Array.getElem?_eq_some_iff.1 HT17.out.1).1
                have hot : ∀ g : Nat, g < w3.heap.size → w17.heap[g]? = w16.heap[g]? := fun g hg => hg17.block g (by have := HG16.out.leB; omega) (fun e => by have := (owns_lt HG16.out.tg g e.symm).1; omega)
                have HH5 : w17.cell? ⟨w3.heap.size, 257, none⟩ = some (.slice tdo 0 tdc) ∧ w17.cell? ⟨w.heap.size, 257, none⟩ = some (.slice (some ⟨bt, offt, none⟩) D.tags.length tc) ∧ w17.cell? ⟨bt, offt, none⟩ = some (.int .u64 (tt : Int)) ∧ w3.heap.size < w17.heap.size :=
                  ⟨c257b, (World.cell?_of_block (a := ⟨w.heap.size, 257, none⟩) (hot _ HWL.out)).trans HH4.2.1, (World.cell?_of_block (a := ⟨bt, offt, none⟩) (hot _ HBT.out)).trans HH4.2.2.1, l257b⟩
                clear hown17 hg17 hat17 hot
                refine hK.out _ _ HH5 ?_
                clear hK K' HH4
                try simp only [Act.put, List.setIfInBounds_toArray, List.set_cons_zero, List.set_cons_succ]
                refine anyT_take (i := 9) (oi := { dst := some 87, op := Go.Op.fieldAddr 30 (Go.Operand.tmp 6) 2, type := 0, pos := "law.go:177", after := #[{ on := 0, ground := Go.Ground.phase }, { on := 1, ground := Go.Ground.phase }, { on := 2, ground := Go.Ground.phase }, { on := 3, ground := Go.Ground.phase }, { on := 4, ground := Go.Ground.phase }, { on := 5, ground := Go.Ground.phase }, { on := 6, ground := Go.Ground.phase }, { on := 7, ground := Go.Ground.phase }, { on := 8, ground := Go.Ground.phase }], guard := none }) (v := ?_) rfl (by kernel_rfl) (by kernel_rfl) (by kernel_rfl) (by decide) (by decide) (by kernel_rfl) (by kernel_rfl) (fun _ _ _ h => h) (Or.inl ⟨by rfl, ?_⟩) HH5 inv (fun inv => ?_)
                rotate_left
                · intro w hSw
                  try dsimp only at hSw
                  go_simp
                  try with_reducible rfl
                simp only [Act.put, List.setIfInBounds_toArray, List.set_cons_zero, List.set_cons_succ]
                refine anyT_one (i := 10) (o := { dst := none, op := Go.Op.store 28 (Go.Operand.tmp 87) (Go.Operand.tmp 86), type := 0, pos := "law.go:177", after := #[{ on := 9, ground := Go.Ground.data }, { on := 8, ground := Go.Ground.data }, { on := 8, ground := Go.Ground.chain }, { on := 0, ground := Go.Ground.phase }, { on := 1, ground := Go.Ground.phase }, { on := 2, ground := Go.Ground.phase }, { on := 3, ground := Go.Ground.phase }, { on := 4, ground := Go.Ground.phase }, { on := 5, ground := Go.Ground.phase }, { on := 6, ground := Go.Ground.phase }, { on := 7, ground := Go.Ground.phase }, { on := 8, ground := Go.Ground.phase }], guard := none }) (by kernel_rfl) rfl (fun K' hK => ?_)
                go_simp
                refine hK.out _ _ (fun h => absurd h (by decide)) ?_
                clear hK K'
                try simp only [Act.put, List.setIfInBounds_toArray, List.set_cons_zero, List.set_cons_succ]
                refine anyT_done (by kernel_rfl) ?_ _
                go_wp2_with fail
                refine ⟨⟨0 + 1, by omega, rfl, hid ⟨.slice no12 (CV.length + 1) nc12, CV ++ [.slice co Kk cq], .slice tgo' (0 + 1) tgc, by rw [List.length_append, HI.out.2]; rfl, ?_⟩⟩, ?_⟩
                · have e1 : (List.range (0 + 1)).map (X6.rowT D) = (List.range 0).map (X6.rowT D) ++ [X6.rowT D 0] := by rw [List.range_succ, List.map_append]; rfl
                  have e2 : (List.range (0 + 1)).map (X6.tagT D) = (List.range 0).map (X6.tagT D) ++ [tt] := by
                    rw [List.range_succ, List.map_append]
                    have : X6.tagT D 0 = tt := by
                      unfold X6.tagT
                      rw [HI.out.1, List.getD_eq_getElem?_getD, HTT.out.1]; rfl
                    rw [List.map_singleton, this]
                  rw [e1, e2]
                  exact HT17.out.2
                · show N - (((0 : Nat) : Int) + 1).toNat < N - (((0 : Nat) : Int)).toNat
                  omega
        · obtain rfl : i = N := by omega
          have k1 : ¬ (i : Int) < (i : Int) := by omega
          have HOI := hid HO.out
          have hbel := Foot.bel hg
          have HB4 := hid (HB3.out.trans (hbel.mono HB3.out.size))
          obtain ⟨dt, hdl, hdx⟩ := (show OI D w3.heap.size (ivs D.cls) w3 i wr from by rw [HCV.out.1]; exact HO.out).lies HNN.out.1 HDA.out.len hN HOK.out hK (fun t ht => by
            obtain ⟨i, hi⟩ := List.mem_iff_getElem?.1 ht
            obtain ⟨_, _, _, _, _, _, h9⟩ := tagsAt_get HDA.out.tags hi
            exact h9)
          have HE := hid hdl
          have HEX := hid hdx
          have HES := hid hdl.sz
          have HL := hid (HL.out.below hbel)
          have HX := hid (HX.out.below hbel)
          have hto := X6.Turned.ok HV.out.ok X6.turn_is
          have hrl : (X5.rowOf (X6.turn D) 0).length = (X5.rowOf D 0).length := hto.rows 0 hto.pos
          have HVE := hid (show X6.Vd (X6.turn D) from ⟨by rw [hrl]; exact hto, fun c hc => by rw [hrl]; exact HV.out.cls c hc⟩)
          have HFE := hid (show X6.Few (X6.turn D) from by
            have h1 := (X6.turn_is (D := D) (K := Kk)).len
            have h2 := (X6.turn_is (D := D) (K := Kk)).tl
            obtain ⟨f1, f2, f3, f4⟩ := HF.out
            refine ⟨by omega, by omega, by rw [hrl]; exact f3, by rw [hrl, h1]; exact f4⟩)
          have HTO := hid (And.intro hto (X6.Turned.eqv HV.out.ok X6.turn_is))
          have K := hid (least_yes HL.out HF.out HV.out)
          clear hg hbel hdl hdx hto hrl hCV HO
          go_wp2_with fail
          refine wp_load30' (.tmp 1) rfl w.heap.size rfl d0 HX.out HD.out.1 ?_
          go_wp2_with fail
          refine K.out.mono ?_
          rintro e w5 ⟨M, dm, rfl, hm, hil, hb⟩
          clear K
          have HB5 := hid (HB4.out.trans (hb.mono HB4.out.size))
          have HM := hid hm.sz
          have HI := hid hil
          obtain ⟨w6, e6, hx6, hb6, hs6⟩ := kept_new w5 dm
          have hbb := hb.trans (hb6.mono hb.size)
          have HB6 := hid (HB5.out.trans (hb6.mono HB5.out.size))
          have HE := hid (HE.out.below hbb)
          have HEX := hid (HEX.out.below hbb)
          have HLM := hid (hm.below hb6)
          have HXM := hid hx6
          have HN5 := hid (new_block w5 (.cells dvz 30))
          have K := hid (least_yes HE.out HFE.out HVE.out)
          clear hb hm hil hx6 hb6 hs6 hbb
          go_wp2_with (first | (with_reducible refine wpList_made30 rfl rfl ?_) | (with_reducible refine wpList_store30 rfl (.tmp 12) (.tmp 91) rfl w5.heap.size rfl dvz dm HN5.out rfl dvz_size HM.out.1 HM.out.2.1 ?_))
          refine wp_load30' (.tmp 6) rfl w3.heap.size rfl dt HEX.out HES.out.1 ?_
          go_wp2_with fail
          clear e6
          refine K.out.mono ?_
          rintro e w7 ⟨M2, dn, rfl, hm, hil, hb⟩
          clear K
          obtain rfl := X6.IsL.one HV.out HTO.out.1 HTO.out.2 rfl HI.out hil
          have HB7 := hid (HB6.out.trans (hb.mono HB6.out.size))
          have HM2 := hid hm.sz
          obtain ⟨w8, e8, hx8, hb8, hs8⟩ := kept_new w7 dn
          have hbb := hb.trans (hb8.mono hb.size)
          have HB8 := hid (HB7.out.trans (hb8.mono HB7.out.size))
          have HLM := hid (HLM.out.below hbb)
          have HXM := hid (HXM.out.below hbb)
          have HLN := hid (hm.below hb8)
          have HXN := hid hx8
          have HN7 := hid (new_block w7 (.cells dvz 30))
          have K := hid (same_at HLM.out HLN.out)
          clear hb hm hil hx8 hb8 hs8 hbb
          go_wp2_with (first | (with_reducible refine wpList_made30 rfl rfl ?_) | (with_reducible refine wpList_store30 rfl (.tmp 14) (.tmp 96) rfl w7.heap.size rfl dvz dn HN7.out rfl dvz_size HM2.out.1 HM2.out.2.1 ?_))
          clear e8
          refine wp_load30' (.tmp 12) rfl w5.heap.size rfl dm HXM.out HM.out.1 ?_
          go_wp2_with fail
          refine wp_load30' (.tmp 14) rfl w7.heap.size rfl dn HXN.out HM2.out.1 ?_
          go_wp2_with fail
          refine K.out.mono ?_
          rintro e w9 ⟨rfl, hb⟩
          have HB9 := hid (HB8.out.trans (hb.mono HB8.out.size))
          clear hb K
          go_wp2_with fail
          go_ret
          exact ⟨rfl, HB9.out⟩
end Go.Proofs.YtochckefnjobhaaDoor
