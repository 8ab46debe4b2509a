/- The walk of the law SetsMore. -/
import Derived.Deep.RegionHeld3
import Derived.Laws.NewBlocks
import Derived.Deep.DeepCutAuto
import Derived.Test.YtmfobiimihaiiaaMm
import Derived.Test.YtmfobiimihaiiaaLw
import Derived.Test.YtmfobiimihaiiaaHt3
import Derived.Test.YtmfobiimihaiiaaHm2
import Derived.Test.YtmfobiimihaiiaaPp
namespace Go.Proofs.Ytmfobiimihaiiaa
open Go Go.RowKit Go.Lib Go.Joins

set_option maxRecDepth 100000 in
set_option maxHeartbeats 4000000 in
theorem more_walk {G : GD} {gv tv ov sv pv : Value} {tf : Nat → Nat → Value} {rv : Nat → Value} {w : World} (h : GrAt w gv G tv ov sv pv tf rv) (hpz : ∀ n c, pv = .slice none n c → c = 0) (p : PD) (ra : Option Addr) (rc : Nat)
    (hp : IntsAt w (.slice ra p.rs.length rc) p.rs) (hpc : p.rs.length ≤ rc) :
    Calls Try.prog 5 #[gv, .agg #[.string p.lab, .int .i64 p.sort, .slice ra p.rs.length rc, .int .i64 p.cls]] w fun e w' => e = .returned (.bool true) ∧ Below w.heap.size w w' := by
  obtain ⟨W0, B, hW0, hB, c0, c1, c2, c3, c4, hG, hb, hsz⟩ := gr_box h
  subst hB
  have hz0 : W0.heap.size = w.heap.size + 1 := by rw [hW0]; simp
  obtain ⟨W1, hW1⟩ : ∃ W1, W1 = W0.alloc (.cells #[.string p.lab, .int .i64 p.sort, .slice ra p.rs.length rc, .int .i64 p.cls] 41) := ⟨_, rfl⟩
  have hB1 : Below W0.heap.size W0 W1 := by rw [hW1]; exact below_al (Below.refl _ _) _
  have HPB : W1.heap[W0.heap.size]? = some (.cells #[.string p.lab, .int .i64 p.sort, .slice ra p.rs.length rc, .int .i64 p.cls] 41) := by rw [hW1]; exact new_block W0 _
  rw [hz0] at HPB
  rw [hW0] at hW1
  have hS1 := hB1.size
  have hz1 : w.heap.size + 2 ≤ W1.heap.size := by rw [hW1]; simp
  have kw := hid (works_any W1)
  have kf := hid fun (W' : World) (hb : Below W0.heap.size W0 W') => few_any (hG.mono hb)
  have kv := hid fun (W' : World) (hb : Below W0.heap.size W0 W') => Valid_any (hG.mono hb)
  have kE := hid fun hV (W' : World) (hb : Below W0.heap.size W0 W') => Empty_any (hG.mono hb) hV
  have kV := hid fun hV (W' : World) (hb : Below W0.heap.size W0 W') => Lives_any (hG.mono hb) hV
  have kF := hid fun hV (W' : World) (hb : Below W0.heap.size W0 W') => First_any (hG.mono hb) hV
  have kL := hid fun hV (W' : World) (hb : Below W0.heap.size W0 W') => Follow_any (hG.mono hb) hV
  have HG := hid hG
  have HP := hid (hp.mono hb)
  have hgv := h.eq
  have hs := hG.sorts
  have hp' := hG.prods
  have ht' := hG.terms
  have ho' := hG.over
  subst hgv
  obtain ⟨sa, sc, rfl, hsn, _⟩ := hs
  obtain ⟨pa, pc, rfl, hpn, hpx⟩ := hp'
  obtain ⟨ta, tc, rfl, _, _⟩ := ht'
  obtain ⟨oa, oc, rfl, _, _⟩ := ho'
  have HPX := hid hpx
  have HPZ := hid hpz
  clear hpx hpz h hG hp
  generalize hfb : decide (fewG G) = fb at *
  have HW0 := hid hW0
  have HZ0 := hid hz0
  clear hW0 hz0
  have e0 := cell_of_block HPB 0
  have e1 := cell_of_block HPB 1
  have e2 := cell_of_block HPB 2
  have e3 := cell_of_block HPB 3
  simp only [List.getElem?_toArray, List.getElem?_cons_zero, List.getElem?_cons_succ] at e0 e1 e2 e3
  replace c0 := cell_below hB1 c0
  replace c1 := cell_below hB1 c1
  replace c2 := cell_below hB1 c2
  replace c3 := cell_below hB1 c3
  replace c4 := cell_below hB1 c4
  have HPB' := hid HPB
  clear HPB
  generalize hns : G.sorts.length = ns at *
  generalize hnt : G.terms.length = nt at *
  generalize hno : G.over.length = no at *
  generalize hnp : G.prods.length = np at *
  generalize hrl : p.rs.length = rl at *
  cases fb
  · go_enter Try.func5, Try.ntmps5
    go_wp2_with fail
    rw [← hW1]
    clear hW1
    refine kw.out.mono ?_
    rintro e w1 ⟨rfl, hBw⟩
    have d0 := cell_below hBw c0
    have d1 := cell_below hBw c1
    have d2 := cell_below hBw c2
    have d3 := cell_below hBw c3
    have d4 := cell_below hBw c4
    replace e0 := cell_below hBw e0
    replace e1 := cell_below hBw e1
    replace e2 := cell_below hBw e2
    replace e3 := cell_below hBw e3
    have HPB := hid (heap_keep hBw HPB'.out)
    have hBx := hB1.trans (hBw.mono hS1)
    have hBs := hBw.size
    clear c0 c1 c2 c3 c4 hBw
    go_wp2_with fail
    refine (kf.out _ hBx).mono ?_
    rintro e w2 ⟨rfl, hBq⟩
    replace d0 := cell_below hBq d0
    replace d1 := cell_below hBq d1
    replace d2 := cell_below hBq d2
    replace d3 := cell_below hBq d3
    replace d4 := cell_below hBq d4
    replace e0 := cell_below hBq e0
    replace e1 := cell_below hBq e1
    replace e2 := cell_below hBq e2
    replace e3 := cell_below hBq e3
    replace hBx := hBx.trans (hBq.mono hBx.size)
    have HPB := hid (heap_keep hBq HPB.out)
    have hBs := Nat.le_trans hBs hBq.size
    clear hBq
    go_wp2_with fail
    go_ret
    exact ⟨rfl, hb.trans (hBx.mono hsz)⟩
  by_cases hn1 : (13 : Int) < (np : Int)
  · go_enter Try.func5, Try.ntmps5
    go_wp2_with fail
    rw [← hW1]
    clear hW1
    refine kw.out.mono ?_
    rintro e w1 ⟨rfl, hBw⟩
    have d0 := cell_below hBw c0
    have d1 := cell_below hBw c1
    have d2 := cell_below hBw c2
    have d3 := cell_below hBw c3
    have d4 := cell_below hBw c4
    replace e0 := cell_below hBw e0
    replace e1 := cell_below hBw e1
    replace e2 := cell_below hBw e2
    replace e3 := cell_below hBw e3
    have HPB := hid (heap_keep hBw HPB'.out)
    have hBx := hB1.trans (hBw.mono hS1)
    have hBs := hBw.size
    clear c0 c1 c2 c3 c4 hBw
    go_wp2_with fail
    refine (kf.out _ hBx).mono ?_
    rintro e w2 ⟨rfl, hBq⟩
    replace d0 := cell_below hBq d0
    replace d1 := cell_below hBq d1
    replace d2 := cell_below hBq d2
    replace d3 := cell_below hBq d3
    replace d4 := cell_below hBq d4
    replace e0 := cell_below hBq e0
    replace e1 := cell_below hBq e1
    replace e2 := cell_below hBq e2
    replace e3 := cell_below hBq e3
    replace hBx := hBx.trans (hBq.mono hBx.size)
    have HPB := hid (heap_keep hBq HPB.out)
    have hBs := Nat.le_trans hBs hBq.size
    clear hBq
    go_wp2_with fail
    go_ret
    exact ⟨rfl, hb.trans (hBx.mono hsz)⟩
  have hn2 : (np : Int) ≤ 13 := by omega
  by_cases hr1 : (12 : Int) < (rl : Int)
  · go_enter Try.func5, Try.ntmps5
    go_wp2_with fail
    rw [← hW1]
    clear hW1
    refine kw.out.mono ?_
    rintro e w1 ⟨rfl, hBw⟩
    have d0 := cell_below hBw c0
    have d1 := cell_below hBw c1
    have d2 := cell_below hBw c2
    have d3 := cell_below hBw c3
    have d4 := cell_below hBw c4
    replace e0 := cell_below hBw e0
    replace e1 := cell_below hBw e1
    replace e2 := cell_below hBw e2
    replace e3 := cell_below hBw e3
    have HPB := hid (heap_keep hBw HPB'.out)
    have hBx := hB1.trans (hBw.mono hS1)
    have hBs := hBw.size
    clear c0 c1 c2 c3 c4 hBw
    go_wp2_with fail
    refine (kf.out _ hBx).mono ?_
    rintro e w2 ⟨rfl, hBq⟩
    replace d0 := cell_below hBq d0
    replace d1 := cell_below hBq d1
    replace d2 := cell_below hBq d2
    replace d3 := cell_below hBq d3
    replace d4 := cell_below hBq d4
    replace e0 := cell_below hBq e0
    replace e1 := cell_below hBq e1
    replace e2 := cell_below hBq e2
    replace e3 := cell_below hBq e3
    replace hBx := hBx.trans (hBq.mono hBx.size)
    have HPB := hid (heap_keep hBq HPB.out)
    have hBs := Nat.le_trans hBs hBq.size
    clear hBq
    go_wp2_with fail
    go_ret
    exact ⟨rfl, hb.trans (hBx.mono hsz)⟩
  have hr2 : (rl : Int) ≤ 12 := by omega
  go_enter Try.func5, Try.ntmps5
  go_wp2_with fail
  rw [← hW1]
  clear hW1
  refine kw.out.mono ?_
  rintro e w1 ⟨rfl, hBw⟩
  have d0 := cell_below hBw c0
  have d1 := cell_below hBw c1
  have d2 := cell_below hBw c2
  have d3 := cell_below hBw c3
  have d4 := cell_below hBw c4
  replace e0 := cell_below hBw e0
  replace e1 := cell_below hBw e1
  replace e2 := cell_below hBw e2
  replace e3 := cell_below hBw e3
  have HPB := hid (heap_keep hBw HPB'.out)
  have hBx := hB1.trans (hBw.mono hS1)
  have hBs := hBw.size
  clear c0 c1 c2 c3 c4 hBw
  go_wp2_with fail
  refine (kf.out _ hBx).mono ?_
  rintro e w2 ⟨rfl, hBq⟩
  replace d0 := cell_below hBq d0
  replace d1 := cell_below hBq d1
  replace d2 := cell_below hBq d2
  replace d3 := cell_below hBq d3
  replace d4 := cell_below hBq d4
  replace e0 := cell_below hBq e0
  replace e1 := cell_below hBq e1
  replace e2 := cell_below hBq e2
  replace e3 := cell_below hBq e3
  replace hBx := hBx.trans (hBq.mono hBx.size)
  have HPB := hid (heap_keep hBq HPB.out)
  have hBs := Nat.le_trans hBs hBq.size
  clear hBq
  have u1 := unfrozen_of_block HPB.out 0
  obtain ⟨w3, hw3⟩ : ∃ w3, w3 = (w2.setCell ⟨w.heap.size + 1, 0, none⟩ (.string ⟨#[122, 122]⟩)).alloc (.cells #[.slice ta nt tc, .slice oa no oc, .slice sa ns sc, .slice pa np pc, .int .i64 G.start] 27) := ⟨_, rfl⟩
  have hz2 : w.heap.size + 2 ≤ w2.heap.size := by omega
  have hz2b : w.heap.size + 1 < w2.heap.size := by omega
  have hz2c : w.heap.size < w2.heap.size := by omega
  have hBset : Below W0.heap.size W0 (w2.setCell ⟨w.heap.size + 1, 0, none⟩ (.string ⟨#[122, 122]⟩)) :=
    Below.setCell (p := ⟨w.heap.size + 1, 0, none⟩) hBx (by have := HZ0.out; show W0.heap.size ≤ w.heap.size + 1; omega) _
  have hB3 := below_al hBset (.cells #[.slice ta nt tc, .slice oa no oc, .slice sa ns sc, .slice pa np pc, .int .i64 G.start] 27)
  rw [← hw3] at hB3
  have t0 := heap_al (o' := (.cells #[.slice ta nt tc, .slice oa no oc, .slice sa ns sc, .slice pa np pc, .int .i64 G.start] 27)) (block_setCell (i := 0) HPB.out (.string ⟨#[122, 122]⟩))
  rw [← hw3] at t0
  simp only [List.setIfInBounds_toArray, List.set_cons_zero] at t0
  have t1 := new_block (w2.setCell ⟨w.heap.size + 1, 0, none⟩ (.string ⟨#[122, 122]⟩)) (.cells #[.slice ta nt tc, .slice oa no oc, .slice sa ns sc, .slice pa np pc, .int .i64 G.start] 27)
  rw [← hw3] at t1
  have hzs : (w2.setCell ⟨w.heap.size + 1, 0, none⟩ (.string ⟨#[122, 122]⟩)).heap.size = w2.heap.size := by simp
  rw [hzs] at t1
  have hz3 : w3.heap.size = w2.heap.size + 1 := by rw [hw3]; simp
  go_upto_region 9 with fail
  rw [← hw3]
  clear hBset hzs hw3
  have g0 := cell_of_block t0 0
  have g1 := cell_of_block t0 1
  have g2 := cell_of_block t0 2
  have g3 := cell_of_block t0 3
  simp only [List.getElem?_toArray, List.getElem?_cons_zero, List.getElem?_cons_succ] at g0 g1 g2 g3
  have hd0 : W0.cell? ⟨w.heap.size, 0, none⟩ = some (.slice ta nt tc) := by
    have := HW0.out
    rw [this, World.cell?_alloc_mark]
    rfl
  have hd1 : W0.cell? ⟨w.heap.size, 1, none⟩ = some (.slice oa no oc) := by
    have := HW0.out
    rw [this, World.cell?_alloc_mark]
    rfl
  have hd2 : W0.cell? ⟨w.heap.size, 2, none⟩ = some (.slice sa ns sc) := by
    have := HW0.out
    rw [this, World.cell?_alloc_mark]
    rfl
  have hd3 : W0.cell? ⟨w.heap.size, 3, none⟩ = some (.slice pa np pc) := by
    have := HW0.out
    rw [this, World.cell?_alloc_mark]
    rfl
  have hd4 : W0.cell? ⟨w.heap.size, 4, none⟩ = some (.int .i64 G.start) := by
    have := HW0.out
    rw [this, World.cell?_alloc_mark]
    rfl
  have d3 := cell_below hB3 hd3
  have hnews : ∀ W', Below W0.heap.size W0 W' → ∀ ad, pa = some ad → ∀ j u, (pcells G.prods rv)[j]? = some u → W'.cell? (ad.add j) = some u := fun W' hb' ad e => by
    subst e
    exact prods_news (n := np) (c := pc) (HG.out.prods.mono hb')
  have HN := hid hnews
  have hpl : (pcells G.prods rv).length = np * 4 := by rw [pcells_length, hnp]
  have HPL := hid hpl
  have HONE : Hid (∀ u ∈ pcells G.prods rv, u.oneCell' = true) := pcells_one HG.out.rights
  have HNA : Hid (pa = none → np = 0 ∧ pc = 0) := fun e => by
    have h0 : np = 0 := Nat.eq_zero_of_not_pos fun hp0 => by
      obtain ⟨b, off, e2, _⟩ := HPX.out hp0
      rw [e] at e2
      cases e2
    exact ⟨h0, HPZ.out np pc (by rw [e])⟩
  clear hnews hpl
  generalize hbh : w2.heap.size = Bh at *
  generalize hbp : w.heap.size = Bg at *
  have HBH := hid hbh
  clear hbh
  have HD := hid (And.intro hd0 (And.intro hd1 (And.intro hd2 (And.intro hd3 hd4))))
  clear hd0 hd1 hd2 hd3 hd4
  have HB3 := hid hB3
  have HZ3 := hid hz3
  clear hz3
  have ht1 := (Array.getElem?_eq_some_iff.1 t1).1
  have u3 := unfrozen_of_block t1 3
  have w3c := cell_of_block t1 3
  simp only [List.getElem?_toArray, List.getElem?_cons_zero, List.getElem?_cons_succ] at w3c
  have nh1 : Bh ≠ Bg := by omega
  have nh2 : Bh ≠ Bg + 1 := by omega
  go_cut [] (fun wx => ∃ gb cap, wx.heap[Bh]? = some (.cells #[.slice ta nt tc, .slice oa no oc, .slice sa ns sc, .slice (some ⟨gb, 0, none⟩) (np + 1) cap, .int .i64 G.start] 27) ∧
    wx.ownsRow w3.heap.size 41 4 (.slice (some ⟨gb, 0, none⟩) (np + 1) cap) (np + 1) (pcells G.prods rv ++ [.string ⟨#[122, 122]⟩, .int .i64 p.sort, .slice ra rl rc, .int .i64 p.cls]) ∧ Below W0.heap.size W0 wx)
  case first =>
    go_region_held3 (fun w' => w'.cell? ⟨Bg, 3, none⟩ = some (.slice pa np pc) ∧ w'.cell? ⟨Bg + 1, 0, none⟩ = some (.string ⟨#[122, 122]⟩) ∧ w'.cell? ⟨Bg + 1, 1, none⟩ = some (.int .i64 p.sort) ∧ w'.cell? ⟨Bg + 1, 2, none⟩ = some (.slice ra rl rc) ∧ w'.cell? ⟨Bg + 1, 3, none⟩ = some (.int .i64 p.cls))
      (first
        | go_keep
        | exact ⟨cell_below HB6.out d3, cell_below HB6.out g0, cell_below HB6.out g1, cell_below HB6.out g2, cell_below HB6.out g3⟩
        | exact ⟨cell_below HB5.out d3, cell_below HB5.out g0, cell_below HB5.out g1, cell_below HB5.out g2, cell_below HB5.out g3⟩
        | exact ⟨cell_alloc (cell_below HB5.out d3), cell_alloc (cell_below HB5.out g0), cell_alloc (cell_below HB5.out g1), cell_alloc (cell_below HB5.out g2), cell_alloc (cell_below HB5.out g3)⟩
        | exact ⟨cell_far (cell_below HB6.out d3) nh1, cell_far (cell_below HB6.out g0) nh2, cell_far (cell_below HB6.out g1) nh2, cell_far (cell_below HB6.out g2) nh2, cell_far (cell_below HB6.out g3) nh2⟩)
      ((rw [if_pos (by rfl)]; first
        | (refine app_prods (.tmp 35) (.tmp 37) rfl w3.heap.size (.slice (some ⟨_, 0, none⟩) 0 0) 0 [] rfl (⟨by simp, .inr ⟨_, 0, #[], rfl, by simp, by (first | exact new_block _ _ | exact heap_al (new_block _ _) | exact new_block2 _ _ _), Nat.zero_le _, by decide, rfl, by simp⟩⟩) pa np pc (pcells G.prods rv) rfl HPL.out (HN.out _ (by repeat' (first | exact HB3.out | refine Below.drew ?_ | refine below_al ?_ _))) HNA.out HONE.out (by omega) (by first | (simp; done) | (simp; omega)) ?_
           intro v5 w5 own5 hb5 far5
           have HB5 := hid (Below.trans (a := w3) (by repeat' (first | exact Below.refl _ _ | refine Below.drew ?_ | refine below_al ?_ _)) hb5)
           clear hb5)
        | (refine app_prods (.tmp 38) (.tmp 40) rfl w3.heap.size v5 (0 + np) ([] ++ pcells G.prods rv) rfl (by first | exact own5 | exact own5.alloc _) (some ⟨_, 0, none⟩) 1 1 [.string ⟨#[122, 122]⟩, .int .i64 p.sort, .slice ra rl rc, .int .i64 p.cls] rfl rfl (fun ad e j u hj => by
             cases e
             first
               | exact four_at hj (new_block _ _)
               | exact four_at hj (far5 _ _ (new_block _ _) (by simp [Value.ownBlock]))
               | exact four_at hj (far5 _ _ (new_block2 _ _ _) (by simp [Value.ownBlock]))
               | exact four_at hj (far5 _ _ (heap_al (new_block _ _)) (by simp [Value.ownBlock]))) (fun h => (by cases h)) (by simp [Value.oneCell']) (by omega) (by have := HB5.out.size; simp; omega) ?_
           intro v6 w6 own6 hb6 _
           have HB6 := hid (HB5.out.trans (Below.trans (by first | exact Below.refl _ _ | exact (Below.refl _ _).alloc HB5.out.size _ | exact ((Below.refl _ _).alloc HB5.out.size _).drew) hb6))
           obtain ⟨gb, cap, rfl⟩ := ownsRow_form own6 (by omega)
           have s1 := cell_below HB6.out w3c
           have s2 : w6.frozen? ⟨Bh, 3, none⟩ = false := (Below.frozen HB6.out (p := ⟨Bh, 3, none⟩) ht1).trans u3
           have OWN6 := hid own6
           clear own6
           clear hb6)))
    all_goals
      go_wp2_with fail
      go_meet
      refine ⟨gb, cap, ?_, ?_, ?_⟩
      · have := block_setCell (i := 3) (heap_keep HB6.out t1) (.slice (some ⟨gb, 0, none⟩) (np + 1) cap)
        simpa using this
      · have hlt := OWN6.out.lt gb rfl
        have := ownsRow_setCell_other (by simpa using OWN6.out) (a := ⟨Bh, 3, none⟩) (by show some gb ≠ some Bh; simp; omega) (.slice (some ⟨gb, 0, none⟩) (np + 1) cap)
        exact this
      · have := HBH.out
        have h2 := HZ0.out
        exact Below.setCell (p := ⟨Bh, 3, none⟩) (HB3.out.trans (HB6.out.mono HB3.out.size)) (by show W0.heap.size ≤ Bh; omega) _
  case rest =>
    obtain ⟨gb, cap, hBh, own, hBy⟩ := hcut
    rename_i wc
    have HH := more_at (p := ⟨⟨#[122, 122]⟩, p.sort, p.rs, p.cls⟩) (rp := .slice ra rl rc) HG.out hBy (by rw [hnp]; exact own) (by omega) HP.out (fun a n c e => by cases e; exact hpc)
    rw [hnp] at HH
    obtain ⟨hd0, hd1, hd2, hd3, hd4⟩ := HD.out
    have y0 := cell_below hBy hd0
    have y1 := cell_below hBy hd1
    have y2 := cell_below hBy hd2
    have y3 := cell_below hBy hd3
    have y4 := cell_below hBy hd4
    have z0 := cell_of_block hBh 0
    have z1 := cell_of_block hBh 1
    have z2 := cell_of_block hBh 2
    have z3 := cell_of_block hBh 3
    have z4 := cell_of_block hBh 4
    simp only [List.getElem?_toArray, List.getElem?_cons_zero, List.getElem?_cons_succ] at z0 z1 z2 z3 z4
    clear hd0 hd1 hd2 hd3 hd4 own hBh d3 g0 g1 g2 g3 t0 t1 u3 w3c e0 e1 e2 e3
    have hsy := hBy.size
    have kvH := hid fun (W' : World) (hb : Below wc.heap.size wc W') => Valid_any (HH.mono hb)
    have kEH : Hid (validB (moreG G ⟨⟨#[122, 122]⟩, p.sort, p.rs, p.cls⟩) = true → ∀ W', Below wc.heap.size wc W' → Calls Try.prog 12 #[.agg #[.slice ta nt tc, .slice oa no oc, .slice sa ns sc, .slice (some ⟨gb, 0, none⟩) (np + 1) cap, .int .i64 G.start]] W' fun e W'' => ∃ lb L, e = .returned (.slice (some ⟨lb, 0, none⟩) ns ns) ∧ Least false (G.prods ++ [⟨⟨#[122, 122]⟩, p.sort, p.rs, p.cls⟩]) ns L ∧ W''.heap[lb]? = some (.cells (L.map Value.bool).toArray 4) ∧ W'.heap.size ≤ lb ∧ Below W'.heap.size W' W'') := fun hV W' hb => by
      have := Empty_any (HH.mono hb) hV
      rw [show (moreG G ⟨⟨#[122, 122]⟩, p.sort, p.rs, p.cls⟩).sorts.length = ns from hns] at this
      exact this
    have kVH : Hid (validB (moreG G ⟨⟨#[122, 122]⟩, p.sort, p.rs, p.cls⟩) = true → ∀ W', Below wc.heap.size wc W' → Calls Try.prog 14 #[.agg #[.slice ta nt tc, .slice oa no oc, .slice sa ns sc, .slice (some ⟨gb, 0, none⟩) (np + 1) cap, .int .i64 G.start]] W' fun e W'' => ∃ lb L, e = .returned (.slice (some ⟨lb, 0, none⟩) ns ns) ∧ Least true (G.prods ++ [⟨⟨#[122, 122]⟩, p.sort, p.rs, p.cls⟩]) ns L ∧ W''.heap[lb]? = some (.cells (L.map Value.bool).toArray 4) ∧ W'.heap.size ≤ lb ∧ Below W'.heap.size W' W'') := fun hV W' hb => by
      have := Lives_any (HH.mono hb) hV
      rw [show (moreG G ⟨⟨#[122, 122]⟩, p.sort, p.rs, p.cls⟩).sorts.length = ns from hns] at this
      exact this
    have kFH : Hid (validB (moreG G ⟨⟨#[122, 122]⟩, p.sort, p.rs, p.cls⟩) = true → ∀ W', Below wc.heap.size wc W' → Calls Try.prog 17 #[.agg #[.slice ta nt tc, .slice oa no oc, .slice sa ns sc, .slice (some ⟨gb, 0, none⟩) (np + 1) cap, .int .i64 G.start]] W' fun e W'' => ∃ fb E F, e = .returned (.slice (some ⟨fb, 0, none⟩) ns ns) ∧ Least false (G.prods ++ [⟨⟨#[122, 122]⟩, p.sort, p.rs, p.cls⟩]) ns E ∧ LeastS (evF nt E (G.prods ++ [⟨⟨#[122, 122]⟩, p.sort, p.rs, p.cls⟩])) ns F ∧ W''.heap[fb]? = some (.cells (sets F) 30) ∧ W'.heap.size ≤ fb ∧ Below W'.heap.size W' W'') := fun hV W' hb => by
      have := First_any (HH.mono hb) hV
      rw [show (moreG G ⟨⟨#[122, 122]⟩, p.sort, p.rs, p.cls⟩).sorts.length = ns from hns, show (moreG G ⟨⟨#[122, 122]⟩, p.sort, p.rs, p.cls⟩).terms.length = nt from hnt] at this
      exact this
    have kLH : Hid (validB (moreG G ⟨⟨#[122, 122]⟩, p.sort, p.rs, p.cls⟩) = true → ∀ W', Below wc.heap.size wc W' → Calls Try.prog 19 #[.agg #[.slice ta nt tc, .slice oa no oc, .slice sa ns sc, .slice (some ⟨gb, 0, none⟩) (np + 1) cap, .int .i64 G.start]] W' fun e W'' => ∃ lb E F L, e = .returned (.slice (some ⟨lb, 0, none⟩) ns ns) ∧ Least false (G.prods ++ [⟨⟨#[122, 122]⟩, p.sort, p.rs, p.cls⟩]) ns E ∧ LeastS (evF nt E (G.prods ++ [⟨⟨#[122, 122]⟩, p.sort, p.rs, p.cls⟩])) ns F ∧ LeastS (evW nt E F G.start (G.prods ++ [⟨⟨#[122, 122]⟩, p.sort, p.rs, p.cls⟩])) ns L ∧ W''.heap[lb]? = some (.cells (sets L) 30) ∧ W'.heap.size ≤ lb ∧ Below W'.heap.size W' W'') := fun hV W' hb => by
      have := Follow_any (HH.mono hb) hV
      rw [show (moreG G ⟨⟨#[122, 122]⟩, p.sort, p.rs, p.cls⟩).sorts.length = ns from hns, show (moreG G ⟨⟨#[122, 122]⟩, p.sort, p.rs, p.cls⟩).terms.length = nt from hnt] at this
      exact this
    clear HH
    generalize hvh : validB (moreG G ⟨⟨#[122, 122]⟩, p.sort, p.rs, p.cls⟩) = vh at *
    have hC := Below.refl wc.heap.size wc
    have HBY := hid hBy
    clear hBy
    cases hvb : validB G
    · have kv1 := kv.out wc HBY.out
      rw [hvb] at kv1
      go_wp2_with fail
      refine (kv1).mono ?_
      rintro e w7 ⟨rfl, hBq⟩
      replace y0 := cell_below hBq y0
      replace y1 := cell_below hBq y1
      replace y2 := cell_below hBq y2
      replace y3 := cell_below hBq y3
      replace y4 := cell_below hBq y4
      replace z0 := cell_below hBq z0
      replace z1 := cell_below hBq z1
      replace z2 := cell_below hBq z2
      replace z3 := cell_below hBq z3
      replace z4 := cell_below hBq z4
      replace hC := hC.trans (hBq.mono hC.size)
      clear hBq
      go_wp2_with fail
      go_ret
      exact ⟨rfl, by rw [hbp]; exact hb.trans ((HBY.out.trans (hC.mono hsy)).mono hsz)⟩
    have kv1 := hid (kv.out wc HBY.out)
    rw [hvb] at kv1
    go_wp2_with fail
    refine (kv1.out).mono ?_
    rintro e w7 ⟨rfl, hBq⟩
    replace y0 := cell_below hBq y0
    replace y1 := cell_below hBq y1
    replace y2 := cell_below hBq y2
    replace y3 := cell_below hBq y3
    replace y4 := cell_below hBq y4
    replace z0 := cell_below hBq z0
    replace z1 := cell_below hBq z1
    replace z2 := cell_below hBq z2
    replace z3 := cell_below hBq z3
    replace z4 := cell_below hBq z4
    replace hC := hC.trans (hBq.mono hC.size)
    clear hBq
    cases vh
    · go_wp2_with fail
      refine (kvH.out _ hC).mono ?_
      rintro e w7 ⟨rfl, hBq⟩
      replace y0 := cell_below hBq y0
      replace y1 := cell_below hBq y1
      replace y2 := cell_below hBq y2
      replace y3 := cell_below hBq y3
      replace y4 := cell_below hBq y4
      replace z0 := cell_below hBq z0
      replace z1 := cell_below hBq z1
      replace z2 := cell_below hBq z2
      replace z3 := cell_below hBq z3
      replace z4 := cell_below hBq z4
      replace hC := hC.trans (hBq.mono hC.size)
      clear hBq
      go_wp2_with fail
      go_ret
      exact ⟨rfl, by rw [hbp]; exact hb.trans ((HBY.out.trans (hC.mono hsy)).mono hsz)⟩
    go_wp2_with fail
    refine (kvH.out _ hC).mono ?_
    rintro e w7 ⟨rfl, hBq⟩
    replace y0 := cell_below hBq y0
    replace y1 := cell_below hBq y1
    replace y2 := cell_below hBq y2
    replace y3 := cell_below hBq y3
    replace y4 := cell_below hBq y4
    replace z0 := cell_below hBq z0
    replace z1 := cell_below hBq z1
    replace z2 := cell_below hBq z2
    replace z3 := cell_below hBq z3
    replace z4 := cell_below hBq z4
    replace hC := hC.trans (hBq.mono hC.size)
    clear hBq
    go_wp2_with fail
    refine (kF.out (by first | exact trivial | exact hvb) _ (HBY.out.trans (hC.mono hsy))).mono ?_
    rintro e w7 ⟨b1, E, F, rfl, hE, hF, e1, _, hBq⟩
    replace y0 := cell_below hBq y0
    replace y1 := cell_below hBq y1
    replace y2 := cell_below hBq y2
    replace y3 := cell_below hBq y3
    replace y4 := cell_below hBq y4
    replace z0 := cell_below hBq z0
    replace z1 := cell_below hBq z1
    replace z2 := cell_below hBq z2
    replace z3 := cell_below hBq z3
    replace z4 := cell_below hBq z4
    have e1 := hid e1
    replace hC := hC.trans (hBq.mono hC.size)
    clear hBq
    go_wp2_with fail
    refine (kFH.out (by simp) _ hC).mono ?_
    rintro e w7 ⟨b2, E2, F2, rfl, hE2, hF2, e2, _, hBq⟩
    replace y0 := cell_below hBq y0
    replace y1 := cell_below hBq y1
    replace y2 := cell_below hBq y2
    replace y3 := cell_below hBq y3
    replace y4 := cell_below hBq y4
    replace z0 := cell_below hBq z0
    replace z1 := cell_below hBq z1
    replace z2 := cell_below hBq z2
    replace z3 := cell_below hBq z3
    replace z4 := cell_below hBq z4
    have e1 := hid (heap_keep hBq e1.out)
    have e2 := hid e2
    replace hC := hC.trans (hBq.mono hC.size)
    clear hBq
    go_wp2_with fail
    refine (kL.out (by first | exact trivial | exact hvb) _ (HBY.out.trans (hC.mono hsy))).mono ?_
    rintro e w7 ⟨b3, E', F', L, rfl, hE', hF', hL, e3, _, hBq⟩
    replace y0 := cell_below hBq y0
    replace y1 := cell_below hBq y1
    replace y2 := cell_below hBq y2
    replace y3 := cell_below hBq y3
    replace y4 := cell_below hBq y4
    replace z0 := cell_below hBq z0
    replace z1 := cell_below hBq z1
    replace z2 := cell_below hBq z2
    replace z3 := cell_below hBq z3
    replace z4 := cell_below hBq z4
    have e1 := hid (heap_keep hBq e1.out)
    have e2 := hid (heap_keep hBq e2.out)
    have e3 := hid e3
    replace hC := hC.trans (hBq.mono hC.size)
    clear hBq
    obtain rfl := hE.same hE'
    obtain rfl : F = F' := hF.sameN hF' (evF_mono _ _ _ _)
    go_wp2_with fail
    refine (kLH.out (by simp) _ hC).mono ?_
    rintro e w7 ⟨b4, E', F', L2, rfl, hE3, hF3, hL2, e4, _, hBq⟩
    replace y0 := cell_below hBq y0
    replace y1 := cell_below hBq y1
    replace y2 := cell_below hBq y2
    replace y3 := cell_below hBq y3
    replace y4 := cell_below hBq y4
    replace z0 := cell_below hBq z0
    replace z1 := cell_below hBq z1
    replace z2 := cell_below hBq z2
    replace z3 := cell_below hBq z3
    replace z4 := cell_below hBq z4
    have e1 := hid (heap_keep hBq e1.out)
    have e2 := hid (heap_keep hBq e2.out)
    have e3 := hid (heap_keep hBq e3.out)
    have e4 := hid e4
    replace hC := hC.trans (hBq.mono hC.size)
    clear hBq
    obtain rfl := hE2.same hE3
    obtain rfl : F2 = F' := hF2.sameN hF3 (evF_mono _ _ _ _)
    have hsub : ∀ q ∈ G.prods, q ∈ G.prods ++ [⟨⟨#[122, 122]⟩, p.sort, p.rs, p.cls⟩] := fun q hq => List.mem_append_left _ hq
    have HEE := hid (more_bool hsub hE hE2)
    have HFF := hid (more_first hsub HEE.out hF hF2)
    have HLL := hid (more_follow hsub HEE.out HFF.out (by rw [hF.length, hF2.length]) hL hL2)
    have HSUB := hid hsub
    have L1 := hid hF.length
    have L2' := hid hF2.length
    have L3 := hid hL.length
    have L4 := hid hL2.length
    have T1 := hid hF.2.2
    have T2 := hid hF2.2.2
    have T3 := hid hL.2.2
    have T4 := hid hL2.2.2
    have HE := hid hE
    have HE2 := hid hE2
    clear hsub hE hE2 hF hF2 hL hL2 hE' hF' hE3 hF3
    go_wp2_with fail
    go_loopw [12] (fun i wr => ∃ k : Nat, k ≤ ns ∧ i = .int .i64 (k : Int) ∧ Below w7.heap.size w7 wr) (fun i _ => ns - (RowKit.intOf i).toNat)
    case atStart => exact ⟨0, by omega, rfl, Below.refl _ _⟩
    case round =>
      obtain ⟨k, hk, rfl, hbw⟩ := hrel
      have hCw := hC.trans (hbw.mono hC.size)
      have y0' := cell_below hbw y0
      have y1' := cell_below hbw y1
      have y2' := cell_below hbw y2
      have y3' := cell_below hbw y3
      have y4' := cell_below hbw y4
      have z0' := cell_below hbw z0
      have z1' := cell_below hbw z1
      have z2' := cell_below hbw z2
      have z3' := cell_below hbw z3
      have z4' := cell_below hbw z4
      by_cases hlt : k < ns
      · have i0 : (0 : Int) ≤ (k : Int) := by omega
        have i1 : (k : Int) < (ns : Int) := by omega
        have a1 := cell_sets (heap_keep hbw e1.out) (i := k) (by have := L1.out; omega)
        have a2 := cell_sets (heap_keep hbw e2.out) (i := k) (by have := L2'.out; omega)
        have a3 := cell_sets (heap_keep hbw e3.out) (i := k) (by have := L3.out; omega)
        have a4 := cell_sets (heap_keep hbw e4.out) (i := k) (by have := L4.out; omega)
        have n1 := getD_lt T1.out k
        have n2 := getD_lt T2.out k
        have n3 := getD_lt T3.out k
        have n4 := getD_lt T4.out k
        have hi1 := (inN_iff n1).2 (HFF.out k)
        have hi2 := (inN_iff n3).2 (HLL.out k)
        have hee := HEE.out k
        have XE := hid (fun (b : Nat) (W : World) (h : W.heap[b]? = some (.cells (E.map Value.bool).toArray 4)) => cell_bools h (i := k) (by rw [HE.out.length]; exact hlt))
        have XE2 := hid (fun (b : Nat) (W : World) (h : W.heap[b]? = some (.cells (E2.map Value.bool).toArray 4)) => cell_bools h (i := k) (by rw [HE2.out.length]; exact hlt))
        generalize F.getD k 0 = f1 at *
        generalize F2.getD k 0 = f2 at *
        generalize L.getD k 0 = g1 at *
        generalize L2.getD k 0 = g2 at *
        generalize E.getD k false = x1 at *
        generalize E2.getD k false = x2 at *
        have kin1 : Hid (∀ w, Calls Try.prog 24 #[.int .u64 (f1 : Int), .int .u64 (f2 : Int)] w fun e w' => e = .returned (.bool true) ∧ w = w') := fun w => (In_any f1 f2 n1 n2 w).mono fun e w' ⟨h1, h2⟩ => ⟨by rw [h1, hi1], h2⟩
        have kin2 : Hid (∀ w, Calls Try.prog 24 #[.int .u64 (g1 : Int), .int .u64 (g2 : Int)] w fun e w' => e = .returned (.bool true) ∧ w = w') := fun w => (In_any g1 g2 n3 n4 w).mono fun e w' ⟨h1, h2⟩ => ⟨by rw [h1, hi2], h2⟩
        clear n1 n2 n3 n4 hi1 hi2
        cases x1
        · clear hee
          go_wp2_with fail
          refine region_T 51 (fun w' => w'.cell? ⟨Bg, 0, none⟩ = some (.slice ta nt tc) ∧ w'.cell? ⟨Bg, 1, none⟩ = some (.slice oa no oc) ∧ w'.cell? ⟨Bg, 2, none⟩ = some (.slice sa ns sc) ∧ w'.cell? ⟨Bg, 3, none⟩ = some (.slice pa np pc) ∧ w'.cell? ⟨Bg, 4, none⟩ = some (.int .i64 G.start) ∧ w'.cell? ⟨Bh, 0, none⟩ = some (.slice ta nt tc) ∧ w'.cell? ⟨Bh, 1, none⟩ = some (.slice oa no oc) ∧ w'.cell? ⟨Bh, 2, none⟩ = some (.slice sa ns sc) ∧ w'.cell? ⟨Bh, 3, none⟩ = some (.slice (some ⟨gb, 0, none⟩) (np + 1) cap) ∧ w'.cell? ⟨Bh, 4, none⟩ = some (.int .i64 G.start) ∧ w'.cell? ⟨b1, k, none⟩ = some (.int .u64 (f1 : Int)) ∧ w'.cell? ⟨b2, k, none⟩ = some (.int .u64 (f2 : Int)) ∧ w'.cell? ⟨b3, k, none⟩ = some (.int .u64 (g1 : Int)) ∧ w'.cell? ⟨b4, k, none⟩ = some (.int .u64 (g2 : Int))) (by kernel_rfl) ⟨y0', y1', y2', y3', y4', z0', z1', z2', z3', z4', a1, a2, a3, a4⟩ (fun inv hHeld => ?_)
          refine anyT_take (i := 0) (oi := { dst := some 67, op := Op.move (Operand.tmp 8), type := 36, pos := "law.go:114", after := #[], guard := none }) (v := ?_) rfl (by kernel_rfl) (by kernel_rfl) (by kernel_rfl) (by decide) (by decide) (by kernel_rfl) (by kernel_rfl) (fun _ _ _ h => h) (Or.inl ⟨by rfl, ?_⟩) hHeld inv (fun inv => ?_)
          rotate_left
          · intro w hSw
            try dsimp only at hSw
            go_simp
            try with_reducible rfl
          simp only [Act.put, List.setIfInBounds_toArray, List.set_cons_zero, List.set_cons_succ]
          refine anyT_take (i := 1) (oi := { dst := some 68, op := Op.move (Operand.tmp 12), type := 3, pos := "law.go:114", after := #[], guard := none }) (v := ?_) rfl (by kernel_rfl) (by kernel_rfl) (by kernel_rfl) (by decide) (by decide) (by kernel_rfl) (by kernel_rfl) (fun _ _ _ h => h) (Or.inl ⟨by rfl, ?_⟩) hHeld inv (fun inv => ?_)
          rotate_left
          · intro w hSw
            try dsimp only at hSw
            go_simp
            try with_reducible rfl
          simp only [Act.put, List.setIfInBounds_toArray, List.set_cons_zero, List.set_cons_succ]
          refine anyT_take (i := 2) (oi := { dst := some 69, op := Op.indexAddr 36 (Operand.tmp 67) (Operand.tmp 68), type := 0, pos := "law.go:114", after := #[{ on := 0, ground := Ground.data }, { on := 1, ground := Ground.data }], guard := none }) (v := ?_) rfl (by kernel_rfl) (by kernel_rfl) (by kernel_rfl) (by decide) (by decide) (by kernel_rfl) (by kernel_rfl) (fun _ _ _ h => h) (Or.inl ⟨by rfl, ?_⟩) hHeld inv (fun inv => ?_)
          rotate_left
          · intro w hSw
            try dsimp only at hSw
            go_simp
            try with_reducible rfl
          simp only [Act.put, List.setIfInBounds_toArray, List.set_cons_zero, List.set_cons_succ]
          refine anyT_take (i := 3) (oi := { dst := some 70, op := Op.load 30 (Operand.tmp 69), type := 30, pos := "law.go:114", after := #[{ on := 2, ground := Ground.data }], guard := none }) (v := ?_) rfl (by kernel_rfl) (by kernel_rfl) (by kernel_rfl) (by decide) (by decide) (by kernel_rfl) (by kernel_rfl) (fun _ _ _ h => h) (Or.inl ⟨by rfl, ?_⟩) hHeld inv (fun inv => ?_)
          rotate_left
          · intro w hSw
            try dsimp only at hSw
            go_simp
            try with_reducible rfl
          simp only [Act.put, List.setIfInBounds_toArray, List.set_cons_zero, List.set_cons_succ]
          refine anyT_take (i := 4) (oi := { dst := some 71, op := Op.move (Operand.tmp 9), type := 36, pos := "law.go:114", after := #[], guard := none }) (v := ?_) rfl (by kernel_rfl) (by kernel_rfl) (by kernel_rfl) (by decide) (by decide) (by kernel_rfl) (by kernel_rfl) (fun _ _ _ h => h) (Or.inl ⟨by rfl, ?_⟩) hHeld inv (fun inv => ?_)
          rotate_left
          · intro w hSw
            try dsimp only at hSw
            go_simp
            try with_reducible rfl
          simp only [Act.put, List.setIfInBounds_toArray, List.set_cons_zero, List.set_cons_succ]
          refine anyT_take (i := 5) (oi := { dst := some 72, op := Op.move (Operand.tmp 12), type := 3, pos := "law.go:114", after := #[], guard := none }) (v := ?_) rfl (by kernel_rfl) (by kernel_rfl) (by kernel_rfl) (by decide) (by decide) (by kernel_rfl) (by kernel_rfl) (fun _ _ _ h => h) (Or.inl ⟨by rfl, ?_⟩) hHeld inv (fun inv => ?_)
          rotate_left
          · intro w hSw
            try dsimp only at hSw
            go_simp
            try with_reducible rfl
          simp only [Act.put, List.setIfInBounds_toArray, List.set_cons_zero, List.set_cons_succ]
          refine anyT_take (i := 6) (oi := { dst := some 73, op := Op.indexAddr 36 (Operand.tmp 71) (Operand.tmp 72), type := 0, pos := "law.go:114", after := #[{ on := 4, ground := Ground.data }, { on := 5, ground := Ground.data }], guard := none }) (v := ?_) rfl (by kernel_rfl) (by kernel_rfl) (by kernel_rfl) (by decide) (by decide) (by kernel_rfl) (by kernel_rfl) (fun _ _ _ h => h) (Or.inl ⟨by rfl, ?_⟩) hHeld inv (fun inv => ?_)
          rotate_left
          · intro w hSw
            try dsimp only at hSw
            go_simp
            try with_reducible rfl
          simp only [Act.put, List.setIfInBounds_toArray, List.set_cons_zero, List.set_cons_succ]
          refine anyT_take (i := 7) (oi := { dst := some 74, op := Op.load 30 (Operand.tmp 73), type := 30, pos := "law.go:114", after := #[{ on := 6, ground := Ground.data }], guard := none }) (v := ?_) rfl (by kernel_rfl) (by kernel_rfl) (by kernel_rfl) (by decide) (by decide) (by kernel_rfl) (by kernel_rfl) (fun _ _ _ h => h) (Or.inl ⟨by rfl, ?_⟩) hHeld inv (fun inv => ?_)
          rotate_left
          · intro w hSw
            try dsimp only at hSw
            go_simp
            try with_reducible rfl
          simp only [Act.put, List.setIfInBounds_toArray, List.set_cons_zero, List.set_cons_succ]
          refine anyT_next (i := 8) (o := { dst := some 75, op := Op.call { callee := Callee.value (Operand.func 24), args := #[Operand.tmp 70, Operand.tmp 74], argTypes := #[30, 30] }, type := 4, pos := "law.go:114", after := #[{ on := 3, ground := Ground.data }, { on := 7, ground := Ground.data }], guard := none }) (by kernel_rfl) rfl (by decide) inv (fun inv K' hK => ?_)
          go_simp
          refine (kin1.out _).mono ?_
          rintro e w8 ⟨rfl, rfl⟩
          go_wp2_with fail
          refine hK.out _ _ hHeld ?_
          clear hK K'
          try simp only [Act.put, List.setIfInBounds_toArray, List.set_cons_zero, List.set_cons_succ]
          refine anyT_take (i := 9) (oi := { dst := some 76, op := Op.unOp UnOp.not 4 (Operand.tmp 75), type := 4, pos := "law.go:114", after := #[{ on := 8, ground := Ground.data }], guard := none }) (v := ?_) rfl (by kernel_rfl) (by kernel_rfl) (by kernel_rfl) (by decide) (by decide) (by kernel_rfl) (by kernel_rfl) (fun _ _ _ h => h) (Or.inl ⟨by rfl, ?_⟩) hHeld inv (fun inv => ?_)
          rotate_left
          · intro w hSw
            try dsimp only at hSw
            go_simp
            try with_reducible rfl
          simp only [Act.put, List.setIfInBounds_toArray, List.set_cons_zero, List.set_cons_succ]
          refine anyT_take (i := 10) (oi := { dst := some 77, op := Op.move (Operand.tmp 76), type := 4, pos := "law.go:114", after := #[{ on := 9, ground := Ground.data }, { on := 8, ground := Ground.chain }], guard := none }) (v := ?_) rfl (by kernel_rfl) (by kernel_rfl) (by kernel_rfl) (by decide) (by decide) (by kernel_rfl) (by kernel_rfl) (fun _ _ _ h => h) (Or.inl ⟨by rfl, ?_⟩) hHeld inv (fun inv => ?_)
          rotate_left
          · intro w hSw
            try dsimp only at hSw
            go_simp
            try with_reducible rfl
          simp only [Act.put, List.setIfInBounds_toArray, List.set_cons_zero, List.set_cons_succ]
          refine anyT_take (i := 11) (oi := { dst := some 78, op := Op.move (Operand.tmp 10), type := 36, pos := "law.go:114", after := #[{ on := 10, ground := Ground.guard }], guard := some (10, false) }) (v := ?_) rfl (by kernel_rfl) (by kernel_rfl) (by kernel_rfl) (by decide) (by decide) (by kernel_rfl) (by kernel_rfl) (fun _ _ _ h => h) (Or.inl ⟨by rfl, ?_⟩) hHeld inv (fun inv => ?_)
          rotate_left
          · intro w hSw
            try dsimp only at hSw
            go_simp
            try with_reducible rfl
          simp only [Act.put, List.setIfInBounds_toArray, List.set_cons_zero, List.set_cons_succ]
          refine anyT_take (i := 12) (oi := { dst := some 79, op := Op.move (Operand.tmp 12), type := 3, pos := "law.go:114", after := #[{ on := 10, ground := Ground.guard }], guard := some (10, false) }) (v := ?_) rfl (by kernel_rfl) (by kernel_rfl) (by kernel_rfl) (by decide) (by decide) (by kernel_rfl) (by kernel_rfl) (fun _ _ _ h => h) (Or.inl ⟨by rfl, ?_⟩) hHeld inv (fun inv => ?_)
          rotate_left
          · intro w hSw
            try dsimp only at hSw
            go_simp
            try with_reducible rfl
          simp only [Act.put, List.setIfInBounds_toArray, List.set_cons_zero, List.set_cons_succ]
          refine anyT_take (i := 13) (oi := { dst := some 80, op := Op.indexAddr 36 (Operand.tmp 78) (Operand.tmp 79), type := 0, pos := "law.go:114", after := #[{ on := 11, ground := Ground.data }, { on := 12, ground := Ground.data }, { on := 10, ground := Ground.guard }], guard := some (10, false) }) (v := ?_) rfl (by kernel_rfl) (by kernel_rfl) (by kernel_rfl) (by decide) (by decide) (by kernel_rfl) (by kernel_rfl) (fun _ _ _ h => h) (Or.inl ⟨by rfl, ?_⟩) hHeld inv (fun inv => ?_)
          rotate_left
          · intro w hSw
            try dsimp only at hSw
            go_simp
            try with_reducible rfl
          simp only [Act.put, List.setIfInBounds_toArray, List.set_cons_zero, List.set_cons_succ]
          refine anyT_take (i := 14) (oi := { dst := some 81, op := Op.load 30 (Operand.tmp 80), type := 30, pos := "law.go:114", after := #[{ on := 13, ground := Ground.data }, { on := 10, ground := Ground.guard }], guard := some (10, false) }) (v := ?_) rfl (by kernel_rfl) (by kernel_rfl) (by kernel_rfl) (by decide) (by decide) (by kernel_rfl) (by kernel_rfl) (fun _ _ _ h => h) (Or.inl ⟨by rfl, ?_⟩) hHeld inv (fun inv => ?_)
          rotate_left
          · intro w hSw
            try dsimp only at hSw
            go_simp
            try with_reducible rfl
          simp only [Act.put, List.setIfInBounds_toArray, List.set_cons_zero, List.set_cons_succ]
          refine anyT_take (i := 15) (oi := { dst := some 82, op := Op.move (Operand.tmp 11), type := 36, pos := "law.go:114", after := #[{ on := 10, ground := Ground.guard }], guard := some (10, false) }) (v := ?_) rfl (by kernel_rfl) (by kernel_rfl) (by kernel_rfl) (by decide) (by decide) (by kernel_rfl) (by kernel_rfl) (fun _ _ _ h => h) (Or.inl ⟨by rfl, ?_⟩) hHeld inv (fun inv => ?_)
          rotate_left
          · intro w hSw
            try dsimp only at hSw
            go_simp
            try with_reducible rfl
          simp only [Act.put, List.setIfInBounds_toArray, List.set_cons_zero, List.set_cons_succ]
          refine anyT_take (i := 16) (oi := { dst := some 83, op := Op.move (Operand.tmp 12), type := 3, pos := "law.go:114", after := #[{ on := 10, ground := Ground.guard }], guard := some (10, false) }) (v := ?_) rfl (by kernel_rfl) (by kernel_rfl) (by kernel_rfl) (by decide) (by decide) (by kernel_rfl) (by kernel_rfl) (fun _ _ _ h => h) (Or.inl ⟨by rfl, ?_⟩) hHeld inv (fun inv => ?_)
          rotate_left
          · intro w hSw
            try dsimp only at hSw
            go_simp
            try with_reducible rfl
          simp only [Act.put, List.setIfInBounds_toArray, List.set_cons_zero, List.set_cons_succ]
          refine anyT_take (i := 17) (oi := { dst := some 84, op := Op.indexAddr 36 (Operand.tmp 82) (Operand.tmp 83), type := 0, pos := "law.go:114", after := #[{ on := 15, ground := Ground.data }, { on := 16, ground := Ground.data }, { on := 10, ground := Ground.guard }], guard := some (10, false) }) (v := ?_) rfl (by kernel_rfl) (by kernel_rfl) (by kernel_rfl) (by decide) (by decide) (by kernel_rfl) (by kernel_rfl) (fun _ _ _ h => h) (Or.inl ⟨by rfl, ?_⟩) hHeld inv (fun inv => ?_)
          rotate_left
          · intro w hSw
            try dsimp only at hSw
            go_simp
            try with_reducible rfl
          simp only [Act.put, List.setIfInBounds_toArray, List.set_cons_zero, List.set_cons_succ]
          refine anyT_take (i := 18) (oi := { dst := some 85, op := Op.load 30 (Operand.tmp 84), type := 30, pos := "law.go:114", after := #[{ on := 17, ground := Ground.data }, { on := 10, ground := Ground.guard }], guard := some (10, false) }) (v := ?_) rfl (by kernel_rfl) (by kernel_rfl) (by kernel_rfl) (by decide) (by decide) (by kernel_rfl) (by kernel_rfl) (fun _ _ _ h => h) (Or.inl ⟨by rfl, ?_⟩) hHeld inv (fun inv => ?_)
          rotate_left
          · intro w hSw
            try dsimp only at hSw
            go_simp
            try with_reducible rfl
          simp only [Act.put, List.setIfInBounds_toArray, List.set_cons_zero, List.set_cons_succ]
          refine anyT_next (i := 19) (o := { dst := some 86, op := Op.call { callee := Callee.value (Operand.func 24), args := #[Operand.tmp 81, Operand.tmp 85], argTypes := #[30, 30] }, type := 4, pos := "law.go:114", after := #[{ on := 14, ground := Ground.data }, { on := 18, ground := Ground.data }, { on := 10, ground := Ground.chain }, { on := 10, ground := Ground.guard }], guard := some (10, false) }) (by kernel_rfl) rfl (by decide) inv (fun inv K' hK => ?_)
          go_simp
          refine (kin2.out _).mono ?_
          rintro e w8 ⟨rfl, rfl⟩
          go_wp2_with fail
          refine hK.out _ _ hHeld ?_
          clear hK K'
          try simp only [Act.put, List.setIfInBounds_toArray, List.set_cons_zero, List.set_cons_succ]
          refine anyT_take (i := 20) (oi := { dst := some 87, op := Op.unOp UnOp.not 4 (Operand.tmp 86), type := 4, pos := "law.go:114", after := #[{ on := 19, ground := Ground.data }, { on := 10, ground := Ground.guard }], guard := some (10, false) }) (v := ?_) rfl (by kernel_rfl) (by kernel_rfl) (by kernel_rfl) (by decide) (by decide) (by kernel_rfl) (by kernel_rfl) (fun _ _ _ h => h) (Or.inl ⟨by rfl, ?_⟩) hHeld inv (fun inv => ?_)
          rotate_left
          · intro w hSw
            try dsimp only at hSw
            go_simp
            try with_reducible rfl
          simp only [Act.put, List.setIfInBounds_toArray, List.set_cons_zero, List.set_cons_succ]
          refine anyT_take (i := 21) (oi := { dst := some 88, op := Op.pick (Operand.tmp 77) (Operand.const (Value.bool true)) (Operand.tmp 87), type := 4, pos := "law.go:114", after := #[{ on := 10, ground := Ground.data }, { on := 20, ground := Ground.data }], guard := none }) (v := ?_) rfl (by kernel_rfl) (by kernel_rfl) (by kernel_rfl) (by decide) (by decide) (by kernel_rfl) (by kernel_rfl) (fun _ _ _ h => h) (Or.inl ⟨by rfl, ?_⟩) hHeld inv (fun inv => ?_)
          rotate_left
          · intro w hSw
            try dsimp only at hSw
            go_simp
            try with_reducible rfl
          simp only [Act.put, List.setIfInBounds_toArray, List.set_cons_zero, List.set_cons_succ]
          refine anyT_take (i := 22) (oi := { dst := some 89, op := Op.move (Operand.tmp 88), type := 4, pos := "law.go:114", after := #[{ on := 21, ground := Ground.data }, { on := 19, ground := Ground.chain }], guard := none }) (v := ?_) rfl (by kernel_rfl) (by kernel_rfl) (by kernel_rfl) (by decide) (by decide) (by kernel_rfl) (by kernel_rfl) (fun _ _ _ h => h) (Or.inl ⟨by rfl, ?_⟩) hHeld inv (fun inv => ?_)
          rotate_left
          · intro w hSw
            try dsimp only at hSw
            go_simp
            try with_reducible rfl
          simp only [Act.put, List.setIfInBounds_toArray, List.set_cons_zero, List.set_cons_succ]
          refine anyT_take (i := 23) (oi := { dst := some 90, op := Op.load 27 (Operand.tmp 2), type := 27, pos := "law.go:114", after := #[{ on := 22, ground := Ground.guard }], guard := some (22, false) }) (v := ?_) rfl (by kernel_rfl) (by kernel_rfl) (by kernel_rfl) (by decide) (by decide) (by kernel_rfl) (by kernel_rfl) (fun _ _ _ h => h) (Or.inl ⟨by rfl, ?_⟩) hHeld inv (fun inv => ?_)
          rotate_left
          · intro w hSw
            try dsimp only at hSw
            go_simp
            try with_reducible rfl
          simp only [Act.put, List.setIfInBounds_toArray, List.set_cons_zero, List.set_cons_succ]
          refine anyT_take (i := 25) (oi := { dst := some 92, op := Op.move (Operand.tmp 12), type := 3, pos := "law.go:114", after := #[{ on := 22, ground := Ground.guard }], guard := some (22, false) }) (v := ?_) rfl (by kernel_rfl) (by kernel_rfl) (by kernel_rfl) (by decide) (by decide) (by kernel_rfl) (by kernel_rfl) (fun _ _ _ h => h) (Or.inl ⟨by rfl, ?_⟩) hHeld inv (fun inv => ?_)
          rotate_left
          · intro w hSw
            try dsimp only at hSw
            go_simp
            try with_reducible rfl
          simp only [Act.put, List.setIfInBounds_toArray, List.set_cons_zero, List.set_cons_succ]
          have hd := hHeld
          have hCd := hCw.drew
          have BW := hid hbw.drew
          refine anyT_next (i := 24) (o := { dst := some 91, op := Op.call { callee := Callee.value (Operand.func 12), args := #[Operand.tmp 90], argTypes := #[27] }, type := 33, pos := "law.go:114", after := #[{ on := 23, ground := Ground.data }, { on := 22, ground := Ground.chain }, { on := 22, ground := Ground.guard }], guard := some (22, false) }) (by kernel_rfl) rfl (by decide) inv (fun inv K' hK => ?_)
          go_simp
          refine (kE.out (by first | exact trivial | exact hvb) _ (HBY.out.trans (hCd.mono hsy))).mono ?_
          rintro e w8 ⟨c1, E', rfl, hE', x5, _, hBq⟩
          replace y0' := cell_below hBq y0'
          replace y1' := cell_below hBq y1'
          replace y2' := cell_below hBq y2'
          replace y3' := cell_below hBq y3'
          replace y4' := cell_below hBq y4'
          replace z0' := cell_below hBq z0'
          replace z1' := cell_below hBq z1'
          replace z2' := cell_below hBq z2'
          replace z3' := cell_below hBq z3'
          replace z4' := cell_below hBq z4'
          replace a1 := cell_below hBq a1
          replace a2 := cell_below hBq a2
          replace a3 := cell_below hBq a3
          replace a4 := cell_below hBq a4
          clear hd
          have hd : w8.cell? ⟨Bg, 0, none⟩ = some (.slice ta nt tc) ∧ w8.cell? ⟨Bg, 1, none⟩ = some (.slice oa no oc) ∧ w8.cell? ⟨Bg, 2, none⟩ = some (.slice sa ns sc) ∧ w8.cell? ⟨Bg, 3, none⟩ = some (.slice pa np pc) ∧ w8.cell? ⟨Bg, 4, none⟩ = some (.int .i64 G.start) ∧ w8.cell? ⟨Bh, 0, none⟩ = some (.slice ta nt tc) ∧ w8.cell? ⟨Bh, 1, none⟩ = some (.slice oa no oc) ∧ w8.cell? ⟨Bh, 2, none⟩ = some (.slice sa ns sc) ∧ w8.cell? ⟨Bh, 3, none⟩ = some (.slice (some ⟨gb, 0, none⟩) (np + 1) cap) ∧ w8.cell? ⟨Bh, 4, none⟩ = some (.int .i64 G.start) ∧ w8.cell? ⟨b1, k, none⟩ = some (.int .u64 (f1 : Int)) ∧ w8.cell? ⟨b2, k, none⟩ = some (.int .u64 (f2 : Int)) ∧ w8.cell? ⟨b3, k, none⟩ = some (.int .u64 (g1 : Int)) ∧ w8.cell? ⟨b4, k, none⟩ = some (.int .u64 (g2 : Int)) := ⟨y0', y1', y2', y3', y4', z0', z1', z2', z3', z4', a1, a2, a3, a4⟩
          obtain rfl := HE.out.same hE'
          have x6 := XE.out _ _ x5
          have BW := hid (BW.out.trans (hBq.mono BW.out.size))
          have hCd := hCd.trans (hBq.mono hCd.size)
          clear x5 hE' hBq
          go_wp2_with fail
          refine hK.out _ _ hd ?_
          clear hK K'
          try simp only [Act.put, List.setIfInBounds_toArray, List.set_cons_zero, List.set_cons_succ]
          refine anyT_take (i := 26) (oi := { dst := some 93, op := Op.indexAddr 33 (Operand.tmp 91) (Operand.tmp 92), type := 0, pos := "law.go:114", after := #[{ on := 24, ground := Ground.data }, { on := 25, ground := Ground.data }, { on := 22, ground := Ground.guard }], guard := some (22, false) }) (v := ?_) rfl (by kernel_rfl) (by kernel_rfl) (by kernel_rfl) (by decide) (by decide) (by kernel_rfl) (by kernel_rfl) (fun _ _ _ h => h) (Or.inl ⟨by rfl, ?_⟩) hd inv (fun inv => ?_)
          rotate_left
          · intro w hSw
            try dsimp only at hSw
            go_simp
            try with_reducible rfl
          simp only [Act.put, List.setIfInBounds_toArray, List.set_cons_zero, List.set_cons_succ]
          refine anyT_next (i := 27) (o := { dst := some 94, op := Op.load 4 (Operand.tmp 93), type := 4, pos := "law.go:114", after := #[{ on := 26, ground := Ground.data }, { on := 22, ground := Ground.guard }], guard := some (22, false) }) (by kernel_rfl) rfl (by decide) inv (fun inv K' hK => ?_)
          go_simp
          refine hK.out _ _ hd ?_
          clear hK K'
          try simp only [Act.put, List.setIfInBounds_toArray, List.set_cons_zero, List.set_cons_succ]
          refine anyT_take (i := 28) (oi := { dst := some 95, op := Op.move (Operand.tmp 94), type := 4, pos := "law.go:114", after := #[{ on := 27, ground := Ground.data }, { on := 24, ground := Ground.chain }, { on := 22, ground := Ground.guard }], guard := some (22, false) }) (v := ?_) rfl (by kernel_rfl) (by kernel_rfl) (by kernel_rfl) (by decide) (by decide) (by kernel_rfl) (by kernel_rfl) (fun _ _ _ h => h) (Or.inl ⟨by rfl, ?_⟩) hd inv (fun inv => ?_)
          rotate_left
          · intro w hSw
            try dsimp only at hSw
            go_simp
            try with_reducible rfl
          simp only [Act.put, List.setIfInBounds_toArray, List.set_cons_zero, List.set_cons_succ]
          refine anyT_take (i := 29) (oi := { dst := some 96, op := Op.load 27 (Operand.tmp 7), type := 27, pos := "law.go:114", after := #[{ on := 28, ground := Ground.guard }], guard := some (28, true) }) (v := undef) rfl (by kernel_rfl) (by kernel_rfl) (by kernel_rfl) (by decide) (by decide) (by kernel_rfl) (by kernel_rfl) (fun _ _ _ h => h) (Or.inr ⟨by rfl, rfl⟩) hd inv (fun inv => ?_)
          simp only [Act.put, List.setIfInBounds_toArray, List.set_cons_zero, List.set_cons_succ]
          refine anyT_take (i := 30) (oi := { dst := some 97, op := Op.call { callee := Callee.value (Operand.func 12), args := #[Operand.tmp 96], argTypes := #[27] }, type := 33, pos := "law.go:114", after := #[{ on := 29, ground := Ground.data }, { on := 28, ground := Ground.chain }, { on := 28, ground := Ground.guard }], guard := some (28, true) }) (v := undef) rfl (by kernel_rfl) (by kernel_rfl) (by kernel_rfl) (by decide) (by decide) (by kernel_rfl) (by kernel_rfl) (fun _ _ _ h => h) (Or.inr ⟨by rfl, rfl⟩) hd inv (fun inv => ?_)
          simp only [Act.put, List.setIfInBounds_toArray, List.set_cons_zero, List.set_cons_succ]
          refine anyT_take (i := 31) (oi := { dst := some 98, op := Op.move (Operand.tmp 12), type := 3, pos := "law.go:114", after := #[{ on := 28, ground := Ground.guard }], guard := some (28, true) }) (v := undef) rfl (by kernel_rfl) (by kernel_rfl) (by kernel_rfl) (by decide) (by decide) (by kernel_rfl) (by kernel_rfl) (fun _ _ _ h => h) (Or.inr ⟨by rfl, rfl⟩) hd inv (fun inv => ?_)
          simp only [Act.put, List.setIfInBounds_toArray, List.set_cons_zero, List.set_cons_succ]
          refine anyT_take (i := 32) (oi := { dst := some 99, op := Op.indexAddr 33 (Operand.tmp 97) (Operand.tmp 98), type := 0, pos := "law.go:114", after := #[{ on := 30, ground := Ground.data }, { on := 31, ground := Ground.data }, { on := 28, ground := Ground.guard }], guard := some (28, true) }) (v := undef) rfl (by kernel_rfl) (by kernel_rfl) (by kernel_rfl) (by decide) (by decide) (by kernel_rfl) (by kernel_rfl) (fun _ _ _ h => h) (Or.inr ⟨by rfl, rfl⟩) hd inv (fun inv => ?_)
          simp only [Act.put, List.setIfInBounds_toArray, List.set_cons_zero, List.set_cons_succ]
          refine anyT_take (i := 33) (oi := { dst := some 100, op := Op.load 4 (Operand.tmp 99), type := 4, pos := "law.go:114", after := #[{ on := 32, ground := Ground.data }, { on := 28, ground := Ground.guard }], guard := some (28, true) }) (v := undef) rfl (by kernel_rfl) (by kernel_rfl) (by kernel_rfl) (by decide) (by decide) (by kernel_rfl) (by kernel_rfl) (fun _ _ _ h => h) (Or.inr ⟨by rfl, rfl⟩) hd inv (fun inv => ?_)
          simp only [Act.put, List.setIfInBounds_toArray, List.set_cons_zero, List.set_cons_succ]
          refine anyT_take (i := 34) (oi := { dst := some 101, op := Op.unOp UnOp.not 4 (Operand.tmp 100), type := 4, pos := "law.go:114", after := #[{ on := 33, ground := Ground.data }, { on := 28, ground := Ground.guard }], guard := some (28, true) }) (v := undef) rfl (by kernel_rfl) (by kernel_rfl) (by kernel_rfl) (by decide) (by decide) (by kernel_rfl) (by kernel_rfl) (fun _ _ _ h => h) (Or.inr ⟨by rfl, rfl⟩) hd inv (fun inv => ?_)
          simp only [Act.put, List.setIfInBounds_toArray, List.set_cons_zero, List.set_cons_succ]
          refine anyT_take (i := 35) (oi := { dst := some 102, op := Op.pick (Operand.tmp 95) (Operand.tmp 101) (Operand.const (Value.bool false)), type := 4, pos := "law.go:114", after := #[{ on := 28, ground := Ground.data }, { on := 34, ground := Ground.data }, { on := 22, ground := Ground.guard }], guard := some (22, false) }) (v := ?_) rfl (by kernel_rfl) (by kernel_rfl) (by kernel_rfl) (by decide) (by decide) (by kernel_rfl) (by kernel_rfl) (fun _ _ _ h => h) (Or.inl ⟨by rfl, ?_⟩) hd inv (fun inv => ?_)
          rotate_left
          · intro w hSw
            try dsimp only at hSw
            go_simp
            try with_reducible rfl
          simp only [Act.put, List.setIfInBounds_toArray, List.set_cons_zero, List.set_cons_succ]
          refine anyT_take (i := 36) (oi := { dst := some 103, op := Op.pick (Operand.tmp 89) (Operand.const (Value.bool true)) (Operand.tmp 102), type := 4, pos := "law.go:114", after := #[{ on := 22, ground := Ground.data }, { on := 35, ground := Ground.data }], guard := none }) (v := ?_) rfl (by kernel_rfl) (by kernel_rfl) (by kernel_rfl) (by decide) (by decide) (by kernel_rfl) (by kernel_rfl) (fun _ _ _ h => h) (Or.inl ⟨by rfl, ?_⟩) hd inv (fun inv => ?_)
          rotate_left
          · intro w hSw
            try dsimp only at hSw
            go_simp
            try with_reducible rfl
          simp only [Act.put, List.setIfInBounds_toArray, List.set_cons_zero, List.set_cons_succ]
          refine anyT_take (i := 37) (oi := { dst := some 104, op := Op.move (Operand.tmp 103), type := 4, pos := "law.go:114", after := #[{ on := 36, ground := Ground.data }, { on := 30, ground := Ground.chain }], guard := none }) (v := ?_) rfl (by kernel_rfl) (by kernel_rfl) (by kernel_rfl) (by decide) (by decide) (by kernel_rfl) (by kernel_rfl) (fun _ _ _ h => h) (Or.inl ⟨by rfl, ?_⟩) hd inv (fun inv => ?_)
          rotate_left
          · intro w hSw
            try dsimp only at hSw
            go_simp
            try with_reducible rfl
          simp only [Act.put, List.setIfInBounds_toArray, List.set_cons_zero, List.set_cons_succ]
          refine anyT_take (i := 38) (oi := { dst := some 105, op := Op.load 27 (Operand.tmp 2), type := 27, pos := "law.go:114", after := #[{ on := 37, ground := Ground.guard }], guard := some (37, false) }) (v := ?_) rfl (by kernel_rfl) (by kernel_rfl) (by kernel_rfl) (by decide) (by decide) (by kernel_rfl) (by kernel_rfl) (fun _ _ _ h => h) (Or.inl ⟨by rfl, ?_⟩) hd inv (fun inv => ?_)
          rotate_left
          · intro w hSw
            try dsimp only at hSw
            go_simp
            try with_reducible rfl
          simp only [Act.put, List.setIfInBounds_toArray, List.set_cons_zero, List.set_cons_succ]
          refine anyT_take (i := 40) (oi := { dst := some 107, op := Op.move (Operand.tmp 12), type := 3, pos := "law.go:114", after := #[{ on := 37, ground := Ground.guard }], guard := some (37, false) }) (v := ?_) rfl (by kernel_rfl) (by kernel_rfl) (by kernel_rfl) (by decide) (by decide) (by kernel_rfl) (by kernel_rfl) (fun _ _ _ h => h) (Or.inl ⟨by rfl, ?_⟩) hd inv (fun inv => ?_)
          rotate_left
          · intro w hSw
            try dsimp only at hSw
            go_simp
            try with_reducible rfl
          simp only [Act.put, List.setIfInBounds_toArray, List.set_cons_zero, List.set_cons_succ]
          refine anyT_next (i := 39) (o := { dst := some 106, op := Op.call { callee := Callee.value (Operand.func 14), args := #[Operand.tmp 105], argTypes := #[27] }, type := 33, pos := "law.go:114", after := #[{ on := 38, ground := Ground.data }, { on := 37, ground := Ground.chain }, { on := 37, ground := Ground.guard }], guard := some (37, false) }) (by kernel_rfl) rfl (by decide) inv (fun inv K' hK => ?_)
          go_simp
          refine (kV.out (by first | exact trivial | exact hvb) _ (HBY.out.trans (hCd.mono hsy))).mono ?_
          rintro e w10 ⟨c3, LV, rfl, hV, x5, _, hBq⟩
          replace y0' := cell_below hBq y0'
          replace y1' := cell_below hBq y1'
          replace y2' := cell_below hBq y2'
          replace y3' := cell_below hBq y3'
          replace y4' := cell_below hBq y4'
          replace z0' := cell_below hBq z0'
          replace z1' := cell_below hBq z1'
          replace z2' := cell_below hBq z2'
          replace z3' := cell_below hBq z3'
          replace z4' := cell_below hBq z4'
          replace a1 := cell_below hBq a1
          replace a2 := cell_below hBq a2
          replace a3 := cell_below hBq a3
          replace a4 := cell_below hBq a4
          clear hd
          have hd : w10.cell? ⟨Bg, 0, none⟩ = some (.slice ta nt tc) ∧ w10.cell? ⟨Bg, 1, none⟩ = some (.slice oa no oc) ∧ w10.cell? ⟨Bg, 2, none⟩ = some (.slice sa ns sc) ∧ w10.cell? ⟨Bg, 3, none⟩ = some (.slice pa np pc) ∧ w10.cell? ⟨Bg, 4, none⟩ = some (.int .i64 G.start) ∧ w10.cell? ⟨Bh, 0, none⟩ = some (.slice ta nt tc) ∧ w10.cell? ⟨Bh, 1, none⟩ = some (.slice oa no oc) ∧ w10.cell? ⟨Bh, 2, none⟩ = some (.slice sa ns sc) ∧ w10.cell? ⟨Bh, 3, none⟩ = some (.slice (some ⟨gb, 0, none⟩) (np + 1) cap) ∧ w10.cell? ⟨Bh, 4, none⟩ = some (.int .i64 G.start) ∧ w10.cell? ⟨b1, k, none⟩ = some (.int .u64 (f1 : Int)) ∧ w10.cell? ⟨b2, k, none⟩ = some (.int .u64 (f2 : Int)) ∧ w10.cell? ⟨b3, k, none⟩ = some (.int .u64 (g1 : Int)) ∧ w10.cell? ⟨b4, k, none⟩ = some (.int .u64 (g2 : Int)) := ⟨y0', y1', y2', y3', y4', z0', z1', z2', z3', z4', a1, a2, a3, a4⟩
          have x8 := cell_bools x5 (i := k) (by rw [hV.length]; exact hlt)
          have BW := hid (BW.out.trans (hBq.mono BW.out.size))
          have hCd := hCd.trans (hBq.mono hCd.size)
          have HV := hid hV
          clear x5 hV hBq
          have hvv := fun LV2 (h : Least true _ ns LV2) => more_bool HSUB.out HV.out h k
          generalize LV.getD k false = lv at *
          have HVV := hid hvv
          clear hvv
          go_wp2_with fail
          refine hK.out _ _ hd ?_
          clear hK K'
          try simp only [Act.put, List.setIfInBounds_toArray, List.set_cons_zero, List.set_cons_succ]
          refine anyT_take (i := 41) (oi := { dst := some 108, op := Op.indexAddr 33 (Operand.tmp 106) (Operand.tmp 107), type := 0, pos := "law.go:114", after := #[{ on := 39, ground := Ground.data }, { on := 40, ground := Ground.data }, { on := 37, ground := Ground.guard }], guard := some (37, false) }) (v := ?_) rfl (by kernel_rfl) (by kernel_rfl) (by kernel_rfl) (by decide) (by decide) (by kernel_rfl) (by kernel_rfl) (fun _ _ _ h => h) (Or.inl ⟨by rfl, ?_⟩) hd inv (fun inv => ?_)
          rotate_left
          · intro w hSw
            try dsimp only at hSw
            go_simp
            try with_reducible rfl
          simp only [Act.put, List.setIfInBounds_toArray, List.set_cons_zero, List.set_cons_succ]
          refine anyT_next (i := 42) (o := { dst := some 109, op := Op.load 4 (Operand.tmp 108), type := 4, pos := "law.go:114", after := #[{ on := 41, ground := Ground.data }, { on := 37, ground := Ground.guard }], guard := some (37, false) }) (by kernel_rfl) rfl (by decide) inv (fun inv K' hK => ?_)
          go_simp
          refine hK.out _ _ hd ?_
          clear hK K'
          try simp only [Act.put, List.setIfInBounds_toArray, List.set_cons_zero, List.set_cons_succ]
          refine anyT_take (i := 43) (oi := { dst := some 110, op := Op.move (Operand.tmp 109), type := 4, pos := "law.go:114", after := #[{ on := 42, ground := Ground.data }, { on := 39, ground := Ground.chain }, { on := 37, ground := Ground.guard }], guard := some (37, false) }) (v := ?_) rfl (by kernel_rfl) (by kernel_rfl) (by kernel_rfl) (by decide) (by decide) (by kernel_rfl) (by kernel_rfl) (fun _ _ _ h => h) (Or.inl ⟨by rfl, ?_⟩) hd inv (fun inv => ?_)
          rotate_left
          · intro w hSw
            try dsimp only at hSw
            go_simp
            try with_reducible rfl
          simp only [Act.put, List.setIfInBounds_toArray, List.set_cons_zero, List.set_cons_succ]
          cases lv
          · refine anyT_take (i := 44) (oi := { dst := some 111, op := Op.load 27 (Operand.tmp 7), type := 27, pos := "law.go:114", after := #[{ on := 43, ground := Ground.guard }], guard := some (43, true) }) (v := undef) rfl (by kernel_rfl) (by kernel_rfl) (by kernel_rfl) (by decide) (by decide) (by kernel_rfl) (by kernel_rfl) (fun _ _ _ h => h) (Or.inr ⟨by rfl, rfl⟩) hd inv (fun inv => ?_)
            simp only [Act.put, List.setIfInBounds_toArray, List.set_cons_zero, List.set_cons_succ]
            refine anyT_take (i := 45) (oi := { dst := some 112, op := Op.call { callee := Callee.value (Operand.func 14), args := #[Operand.tmp 111], argTypes := #[27] }, type := 33, pos := "law.go:114", after := #[{ on := 44, ground := Ground.data }, { on := 43, ground := Ground.chain }, { on := 43, ground := Ground.guard }], guard := some (43, true) }) (v := undef) rfl (by kernel_rfl) (by kernel_rfl) (by kernel_rfl) (by decide) (by decide) (by kernel_rfl) (by kernel_rfl) (fun _ _ _ h => h) (Or.inr ⟨by rfl, rfl⟩) hd inv (fun inv => ?_)
            simp only [Act.put, List.setIfInBounds_toArray, List.set_cons_zero, List.set_cons_succ]
            refine anyT_take (i := 46) (oi := { dst := some 113, op := Op.move (Operand.tmp 12), type := 3, pos := "law.go:114", after := #[{ on := 43, ground := Ground.guard }], guard := some (43, true) }) (v := undef) rfl (by kernel_rfl) (by kernel_rfl) (by kernel_rfl) (by decide) (by decide) (by kernel_rfl) (by kernel_rfl) (fun _ _ _ h => h) (Or.inr ⟨by rfl, rfl⟩) hd inv (fun inv => ?_)
            simp only [Act.put, List.setIfInBounds_toArray, List.set_cons_zero, List.set_cons_succ]
            refine anyT_take (i := 47) (oi := { dst := some 114, op := Op.indexAddr 33 (Operand.tmp 112) (Operand.tmp 113), type := 0, pos := "law.go:114", after := #[{ on := 45, ground := Ground.data }, { on := 46, ground := Ground.data }, { on := 43, ground := Ground.guard }], guard := some (43, true) }) (v := undef) rfl (by kernel_rfl) (by kernel_rfl) (by kernel_rfl) (by decide) (by decide) (by kernel_rfl) (by kernel_rfl) (fun _ _ _ h => h) (Or.inr ⟨by rfl, rfl⟩) hd inv (fun inv => ?_)
            simp only [Act.put, List.setIfInBounds_toArray, List.set_cons_zero, List.set_cons_succ]
            refine anyT_take (i := 48) (oi := { dst := some 115, op := Op.load 4 (Operand.tmp 114), type := 4, pos := "law.go:114", after := #[{ on := 47, ground := Ground.data }, { on := 43, ground := Ground.guard }], guard := some (43, true) }) (v := undef) rfl (by kernel_rfl) (by kernel_rfl) (by kernel_rfl) (by decide) (by decide) (by kernel_rfl) (by kernel_rfl) (fun _ _ _ h => h) (Or.inr ⟨by rfl, rfl⟩) hd inv (fun inv => ?_)
            simp only [Act.put, List.setIfInBounds_toArray, List.set_cons_zero, List.set_cons_succ]
            refine anyT_take (i := 49) (oi := { dst := some 116, op := Op.unOp UnOp.not 4 (Operand.tmp 115), type := 4, pos := "law.go:114", after := #[{ on := 48, ground := Ground.data }, { on := 43, ground := Ground.guard }], guard := some (43, true) }) (v := undef) rfl (by kernel_rfl) (by kernel_rfl) (by kernel_rfl) (by decide) (by decide) (by kernel_rfl) (by kernel_rfl) (fun _ _ _ h => h) (Or.inr ⟨by rfl, rfl⟩) hd inv (fun inv => ?_)
            simp only [Act.put, List.setIfInBounds_toArray, List.set_cons_zero, List.set_cons_succ]
            refine anyT_take (i := 50) (oi := { dst := some 117, op := Op.pick (Operand.tmp 110) (Operand.tmp 116) (Operand.const (Value.bool false)), type := 4, pos := "law.go:114", after := #[{ on := 43, ground := Ground.data }, { on := 49, ground := Ground.data }, { on := 37, ground := Ground.guard }], guard := some (37, false) }) (v := ?_) rfl (by kernel_rfl) (by kernel_rfl) (by kernel_rfl) (by decide) (by decide) (by kernel_rfl) (by kernel_rfl) (fun _ _ _ h => h) (Or.inl ⟨by rfl, ?_⟩) hd inv (fun inv => ?_)
            rotate_left
            · intro w hSw
              try dsimp only at hSw
              go_simp
              try with_reducible rfl
            simp only [Act.put, List.setIfInBounds_toArray, List.set_cons_zero, List.set_cons_succ]
            refine anyT_one (i := 51) (o := { dst := some 118, op := Op.pick (Operand.tmp 104) (Operand.const (Value.bool true)) (Operand.tmp 117), type := 4, pos := "law.go:114", after := #[{ on := 37, ground := Ground.data }, { on := 50, ground := Ground.data }], guard := none }) (by kernel_rfl) rfl (fun K' hK => ?_)
            go_simp
            refine hK.out _ _ (fun h => absurd h (by decide)) ?_
            clear hK K'
            try simp only [Act.put, List.setIfInBounds_toArray, List.set_cons_zero, List.set_cons_succ]
            refine anyT_done (by kernel_rfl) ?_ _
            go_wp2
            exact ⟨⟨k + 1, by omega, by go_num, BW.out⟩, by simp [RowKit.intOf]; omega⟩
          · refine anyT_take (i := 44) (oi := { dst := some 111, op := Op.load 27 (Operand.tmp 7), type := 27, pos := "law.go:114", after := #[{ on := 43, ground := Ground.guard }], guard := some (43, true) }) (v := ?_) rfl (by kernel_rfl) (by kernel_rfl) (by kernel_rfl) (by decide) (by decide) (by kernel_rfl) (by kernel_rfl) (fun _ _ _ h => h) (Or.inl ⟨by rfl, ?_⟩) hd inv (fun inv => ?_)
            rotate_left
            · intro w hSw
              try dsimp only at hSw
              go_simp
              try with_reducible rfl
            simp only [Act.put, List.setIfInBounds_toArray, List.set_cons_zero, List.set_cons_succ]
            refine anyT_take (i := 46) (oi := { dst := some 113, op := Op.move (Operand.tmp 12), type := 3, pos := "law.go:114", after := #[{ on := 43, ground := Ground.guard }], guard := some (43, true) }) (v := ?_) rfl (by kernel_rfl) (by kernel_rfl) (by kernel_rfl) (by decide) (by decide) (by kernel_rfl) (by kernel_rfl) (fun _ _ _ h => h) (Or.inl ⟨by rfl, ?_⟩) hd inv (fun inv => ?_)
            rotate_left
            · intro w hSw
              try dsimp only at hSw
              go_simp
              try with_reducible rfl
            simp only [Act.put, List.setIfInBounds_toArray, List.set_cons_zero, List.set_cons_succ]
            refine anyT_next (i := 45) (o := { dst := some 112, op := Op.call { callee := Callee.value (Operand.func 14), args := #[Operand.tmp 111], argTypes := #[27] }, type := 33, pos := "law.go:114", after := #[{ on := 44, ground := Ground.data }, { on := 43, ground := Ground.chain }, { on := 43, ground := Ground.guard }], guard := some (43, true) }) (by kernel_rfl) rfl (by decide) inv (fun inv K' hK => ?_)
            go_simp
            refine (kVH.out (by simp) _ hCd).mono ?_
            rintro e w11 ⟨c4, LV2, rfl, hV2, x5, _, hBq⟩
            replace y0' := cell_below hBq y0'
            replace y1' := cell_below hBq y1'
            replace y2' := cell_below hBq y2'
            replace y3' := cell_below hBq y3'
            replace y4' := cell_below hBq y4'
            replace z0' := cell_below hBq z0'
            replace z1' := cell_below hBq z1'
            replace z2' := cell_below hBq z2'
            replace z3' := cell_below hBq z3'
            replace z4' := cell_below hBq z4'
            replace a1 := cell_below hBq a1
            replace a2 := cell_below hBq a2
            replace a3 := cell_below hBq a3
            replace a4 := cell_below hBq a4
            clear hd
            have hd : w11.cell? ⟨Bg, 0, none⟩ = some (.slice ta nt tc) ∧ w11.cell? ⟨Bg, 1, none⟩ = some (.slice oa no oc) ∧ w11.cell? ⟨Bg, 2, none⟩ = some (.slice sa ns sc) ∧ w11.cell? ⟨Bg, 3, none⟩ = some (.slice pa np pc) ∧ w11.cell? ⟨Bg, 4, none⟩ = some (.int .i64 G.start) ∧ w11.cell? ⟨Bh, 0, none⟩ = some (.slice ta nt tc) ∧ w11.cell? ⟨Bh, 1, none⟩ = some (.slice oa no oc) ∧ w11.cell? ⟨Bh, 2, none⟩ = some (.slice sa ns sc) ∧ w11.cell? ⟨Bh, 3, none⟩ = some (.slice (some ⟨gb, 0, none⟩) (np + 1) cap) ∧ w11.cell? ⟨Bh, 4, none⟩ = some (.int .i64 G.start) ∧ w11.cell? ⟨b1, k, none⟩ = some (.int .u64 (f1 : Int)) ∧ w11.cell? ⟨b2, k, none⟩ = some (.int .u64 (f2 : Int)) ∧ w11.cell? ⟨b3, k, none⟩ = some (.int .u64 (g1 : Int)) ∧ w11.cell? ⟨b4, k, none⟩ = some (.int .u64 (g2 : Int)) := ⟨y0', y1', y2', y3', y4', z0', z1', z2', z3', z4', a1, a2, a3, a4⟩
            have x9 := cell_bools x5 (i := k) (by rw [hV2.length]; exact hlt)
            rw [HVV.out LV2 hV2 rfl] at x9
            have BW := hid (BW.out.trans (hBq.mono BW.out.size))
            have hCd := hCd.trans (hBq.mono hCd.size)
            clear x5 hV2 hBq
            go_wp2_with fail
            refine hK.out _ _ hd ?_
            clear hK K'
            try simp only [Act.put, List.setIfInBounds_toArray, List.set_cons_zero, List.set_cons_succ]
            refine anyT_take (i := 47) (oi := { dst := some 114, op := Op.indexAddr 33 (Operand.tmp 112) (Operand.tmp 113), type := 0, pos := "law.go:114", after := #[{ on := 45, ground := Ground.data }, { on := 46, ground := Ground.data }, { on := 43, ground := Ground.guard }], guard := some (43, true) }) (v := ?_) rfl (by kernel_rfl) (by kernel_rfl) (by kernel_rfl) (by decide) (by decide) (by kernel_rfl) (by kernel_rfl) (fun _ _ _ h => h) (Or.inl ⟨by rfl, ?_⟩) hd inv (fun inv => ?_)
            rotate_left
            · intro w hSw
              try dsimp only at hSw
              go_simp
              try with_reducible rfl
            simp only [Act.put, List.setIfInBounds_toArray, List.set_cons_zero, List.set_cons_succ]
            refine anyT_next (i := 48) (o := { dst := some 115, op := Op.load 4 (Operand.tmp 114), type := 4, pos := "law.go:114", after := #[{ on := 47, ground := Ground.data }, { on := 43, ground := Ground.guard }], guard := some (43, true) }) (by kernel_rfl) rfl (by decide) inv (fun inv K' hK => ?_)
            go_simp
            refine hK.out _ _ hd ?_
            clear hK K'
            try simp only [Act.put, List.setIfInBounds_toArray, List.set_cons_zero, List.set_cons_succ]
            refine anyT_take (i := 49) (oi := { dst := some 116, op := Op.unOp UnOp.not 4 (Operand.tmp 115), type := 4, pos := "law.go:114", after := #[{ on := 48, ground := Ground.data }, { on := 43, ground := Ground.guard }], guard := some (43, true) }) (v := ?_) rfl (by kernel_rfl) (by kernel_rfl) (by kernel_rfl) (by decide) (by decide) (by kernel_rfl) (by kernel_rfl) (fun _ _ _ h => h) (Or.inl ⟨by rfl, ?_⟩) hd inv (fun inv => ?_)
            rotate_left
            · intro w hSw
              try dsimp only at hSw
              go_simp
              try with_reducible rfl
            simp only [Act.put, List.setIfInBounds_toArray, List.set_cons_zero, List.set_cons_succ]
            refine anyT_take (i := 50) (oi := { dst := some 117, op := Op.pick (Operand.tmp 110) (Operand.tmp 116) (Operand.const (Value.bool false)), type := 4, pos := "law.go:114", after := #[{ on := 43, ground := Ground.data }, { on := 49, ground := Ground.data }, { on := 37, ground := Ground.guard }], guard := some (37, false) }) (v := ?_) rfl (by kernel_rfl) (by kernel_rfl) (by kernel_rfl) (by decide) (by decide) (by kernel_rfl) (by kernel_rfl) (fun _ _ _ h => h) (Or.inl ⟨by rfl, ?_⟩) hd inv (fun inv => ?_)
            rotate_left
            · intro w hSw
              try dsimp only at hSw
              go_simp
              try with_reducible rfl
            simp only [Act.put, List.setIfInBounds_toArray, List.set_cons_zero, List.set_cons_succ]
            refine anyT_one (i := 51) (o := { dst := some 118, op := Op.pick (Operand.tmp 104) (Operand.const (Value.bool true)) (Operand.tmp 117), type := 4, pos := "law.go:114", after := #[{ on := 37, ground := Ground.data }, { on := 50, ground := Ground.data }], guard := none }) (by kernel_rfl) rfl (fun K' hK => ?_)
            go_simp
            refine hK.out _ _ (fun h => absurd h (by decide)) ?_
            clear hK K'
            try simp only [Act.put, List.setIfInBounds_toArray, List.set_cons_zero, List.set_cons_succ]
            refine anyT_done (by kernel_rfl) ?_ _
            go_wp2
            exact ⟨⟨k + 1, by omega, by go_num, BW.out⟩, by simp [RowKit.intOf]; omega⟩
        · obtain rfl : x2 = true := hee rfl
          clear hee
          go_wp2_with fail
          refine region_T 51 (fun w' => w'.cell? ⟨Bg, 0, none⟩ = some (.slice ta nt tc) ∧ w'.cell? ⟨Bg, 1, none⟩ = some (.slice oa no oc) ∧ w'.cell? ⟨Bg, 2, none⟩ = some (.slice sa ns sc) ∧ w'.cell? ⟨Bg, 3, none⟩ = some (.slice pa np pc) ∧ w'.cell? ⟨Bg, 4, none⟩ = some (.int .i64 G.start) ∧ w'.cell? ⟨Bh, 0, none⟩ = some (.slice ta nt tc) ∧ w'.cell? ⟨Bh, 1, none⟩ = some (.slice oa no oc) ∧ w'.cell? ⟨Bh, 2, none⟩ = some (.slice sa ns sc) ∧ w'.cell? ⟨Bh, 3, none⟩ = some (.slice (some ⟨gb, 0, none⟩) (np + 1) cap) ∧ w'.cell? ⟨Bh, 4, none⟩ = some (.int .i64 G.start) ∧ w'.cell? ⟨b1, k, none⟩ = some (.int .u64 (f1 : Int)) ∧ w'.cell? ⟨b2, k, none⟩ = some (.int .u64 (f2 : Int)) ∧ w'.cell? ⟨b3, k, none⟩ = some (.int .u64 (g1 : Int)) ∧ w'.cell? ⟨b4, k, none⟩ = some (.int .u64 (g2 : Int))) (by kernel_rfl) ⟨y0', y1', y2', y3', y4', z0', z1', z2', z3', z4', a1, a2, a3, a4⟩ (fun inv hHeld => ?_)
          refine anyT_take (i := 0) (oi := { dst := some 67, op := Op.move (Operand.tmp 8), type := 36, pos := "law.go:114", after := #[], guard := none }) (v := ?_) rfl (by kernel_rfl) (by kernel_rfl) (by kernel_rfl) (by decide) (by decide) (by kernel_rfl) (by kernel_rfl) (fun _ _ _ h => h) (Or.inl ⟨by rfl, ?_⟩) hHeld inv (fun inv => ?_)
          rotate_left
          · intro w hSw
            try dsimp only at hSw
            go_simp
            try with_reducible rfl
          simp only [Act.put, List.setIfInBounds_toArray, List.set_cons_zero, List.set_cons_succ]
          refine anyT_take (i := 1) (oi := { dst := some 68, op := Op.move (Operand.tmp 12), type := 3, pos := "law.go:114", after := #[], guard := none }) (v := ?_) rfl (by kernel_rfl) (by kernel_rfl) (by kernel_rfl) (by decide) (by decide) (by kernel_rfl) (by kernel_rfl) (fun _ _ _ h => h) (Or.inl ⟨by rfl, ?_⟩) hHeld inv (fun inv => ?_)
          rotate_left
          · intro w hSw
            try dsimp only at hSw
            go_simp
            try with_reducible rfl
          simp only [Act.put, List.setIfInBounds_toArray, List.set_cons_zero, List.set_cons_succ]
          refine anyT_take (i := 2) (oi := { dst := some 69, op := Op.indexAddr 36 (Operand.tmp 67) (Operand.tmp 68), type := 0, pos := "law.go:114", after := #[{ on := 0, ground := Ground.data }, { on := 1, ground := Ground.data }], guard := none }) (v := ?_) rfl (by kernel_rfl) (by kernel_rfl) (by kernel_rfl) (by decide) (by decide) (by kernel_rfl) (by kernel_rfl) (fun _ _ _ h => h) (Or.inl ⟨by rfl, ?_⟩) hHeld inv (fun inv => ?_)
          rotate_left
          · intro w hSw
            try dsimp only at hSw
            go_simp
            try with_reducible rfl
          simp only [Act.put, List.setIfInBounds_toArray, List.set_cons_zero, List.set_cons_succ]
          refine anyT_take (i := 3) (oi := { dst := some 70, op := Op.load 30 (Operand.tmp 69), type := 30, pos := "law.go:114", after := #[{ on := 2, ground := Ground.data }], guard := none }) (v := ?_) rfl (by kernel_rfl) (by kernel_rfl) (by kernel_rfl) (by decide) (by decide) (by kernel_rfl) (by kernel_rfl) (fun _ _ _ h => h) (Or.inl ⟨by rfl, ?_⟩) hHeld inv (fun inv => ?_)
          rotate_left
          · intro w hSw
            try dsimp only at hSw
            go_simp
            try with_reducible rfl
          simp only [Act.put, List.setIfInBounds_toArray, List.set_cons_zero, List.set_cons_succ]
          refine anyT_take (i := 4) (oi := { dst := some 71, op := Op.move (Operand.tmp 9), type := 36, pos := "law.go:114", after := #[], guard := none }) (v := ?_) rfl (by kernel_rfl) (by kernel_rfl) (by kernel_rfl) (by decide) (by decide) (by kernel_rfl) (by kernel_rfl) (fun _ _ _ h => h) (Or.inl ⟨by rfl, ?_⟩) hHeld inv (fun inv => ?_)
          rotate_left
          · intro w hSw
            try dsimp only at hSw
            go_simp
            try with_reducible rfl
          simp only [Act.put, List.setIfInBounds_toArray, List.set_cons_zero, List.set_cons_succ]
          refine anyT_take (i := 5) (oi := { dst := some 72, op := Op.move (Operand.tmp 12), type := 3, pos := "law.go:114", after := #[], guard := none }) (v := ?_) rfl (by kernel_rfl) (by kernel_rfl) (by kernel_rfl) (by decide) (by decide) (by kernel_rfl) (by kernel_rfl) (fun _ _ _ h => h) (Or.inl ⟨by rfl, ?_⟩) hHeld inv (fun inv => ?_)
          rotate_left
          · intro w hSw
            try dsimp only at hSw
            go_simp
            try with_reducible rfl
          simp only [Act.put, List.setIfInBounds_toArray, List.set_cons_zero, List.set_cons_succ]
          refine anyT_take (i := 6) (oi := { dst := some 73, op := Op.indexAddr 36 (Operand.tmp 71) (Operand.tmp 72), type := 0, pos := "law.go:114", after := #[{ on := 4, ground := Ground.data }, { on := 5, ground := Ground.data }], guard := none }) (v := ?_) rfl (by kernel_rfl) (by kernel_rfl) (by kernel_rfl) (by decide) (by decide) (by kernel_rfl) (by kernel_rfl) (fun _ _ _ h => h) (Or.inl ⟨by rfl, ?_⟩) hHeld inv (fun inv => ?_)
          rotate_left
          · intro w hSw
            try dsimp only at hSw
            go_simp
            try with_reducible rfl
          simp only [Act.put, List.setIfInBounds_toArray, List.set_cons_zero, List.set_cons_succ]
          refine anyT_take (i := 7) (oi := { dst := some 74, op := Op.load 30 (Operand.tmp 73), type := 30, pos := "law.go:114", after := #[{ on := 6, ground := Ground.data }], guard := none }) (v := ?_) rfl (by kernel_rfl) (by kernel_rfl) (by kernel_rfl) (by decide) (by decide) (by kernel_rfl) (by kernel_rfl) (fun _ _ _ h => h) (Or.inl ⟨by rfl, ?_⟩) hHeld inv (fun inv => ?_)
          rotate_left
          · intro w hSw
            try dsimp only at hSw
            go_simp
            try with_reducible rfl
          simp only [Act.put, List.setIfInBounds_toArray, List.set_cons_zero, List.set_cons_succ]
          refine anyT_next (i := 8) (o := { dst := some 75, op := Op.call { callee := Callee.value (Operand.func 24), args := #[Operand.tmp 70, Operand.tmp 74], argTypes := #[30, 30] }, type := 4, pos := "law.go:114", after := #[{ on := 3, ground := Ground.data }, { on := 7, ground := Ground.data }], guard := none }) (by kernel_rfl) rfl (by decide) inv (fun inv K' hK => ?_)
          go_simp
          refine (kin1.out _).mono ?_
          rintro e w8 ⟨rfl, rfl⟩
          go_wp2_with fail
          refine hK.out _ _ hHeld ?_
          clear hK K'
          try simp only [Act.put, List.setIfInBounds_toArray, List.set_cons_zero, List.set_cons_succ]
          refine anyT_take (i := 9) (oi := { dst := some 76, op := Op.unOp UnOp.not 4 (Operand.tmp 75), type := 4, pos := "law.go:114", after := #[{ on := 8, ground := Ground.data }], guard := none }) (v := ?_) rfl (by kernel_rfl) (by kernel_rfl) (by kernel_rfl) (by decide) (by decide) (by kernel_rfl) (by kernel_rfl) (fun _ _ _ h => h) (Or.inl ⟨by rfl, ?_⟩) hHeld inv (fun inv => ?_)
          rotate_left
          · intro w hSw
            try dsimp only at hSw
            go_simp
            try with_reducible rfl
          simp only [Act.put, List.setIfInBounds_toArray, List.set_cons_zero, List.set_cons_succ]
          refine anyT_take (i := 10) (oi := { dst := some 77, op := Op.move (Operand.tmp 76), type := 4, pos := "law.go:114", after := #[{ on := 9, ground := Ground.data }, { on := 8, ground := Ground.chain }], guard := none }) (v := ?_) rfl (by kernel_rfl) (by kernel_rfl) (by kernel_rfl) (by decide) (by decide) (by kernel_rfl) (by kernel_rfl) (fun _ _ _ h => h) (Or.inl ⟨by rfl, ?_⟩) hHeld inv (fun inv => ?_)
          rotate_left
          · intro w hSw
            try dsimp only at hSw
            go_simp
            try with_reducible rfl
          simp only [Act.put, List.setIfInBounds_toArray, List.set_cons_zero, List.set_cons_succ]
          refine anyT_take (i := 11) (oi := { dst := some 78, op := Op.move (Operand.tmp 10), type := 36, pos := "law.go:114", after := #[{ on := 10, ground := Ground.guard }], guard := some (10, false) }) (v := ?_) rfl (by kernel_rfl) (by kernel_rfl) (by kernel_rfl) (by decide) (by decide) (by kernel_rfl) (by kernel_rfl) (fun _ _ _ h => h) (Or.inl ⟨by rfl, ?_⟩) hHeld inv (fun inv => ?_)
          rotate_left
          · intro w hSw
            try dsimp only at hSw
            go_simp
            try with_reducible rfl
          simp only [Act.put, List.setIfInBounds_toArray, List.set_cons_zero, List.set_cons_succ]
          refine anyT_take (i := 12) (oi := { dst := some 79, op := Op.move (Operand.tmp 12), type := 3, pos := "law.go:114", after := #[{ on := 10, ground := Ground.guard }], guard := some (10, false) }) (v := ?_) rfl (by kernel_rfl) (by kernel_rfl) (by kernel_rfl) (by decide) (by decide) (by kernel_rfl) (by kernel_rfl) (fun _ _ _ h => h) (Or.inl ⟨by rfl, ?_⟩) hHeld inv (fun inv => ?_)
          rotate_left
          · intro w hSw
            try dsimp only at hSw
            go_simp
            try with_reducible rfl
          simp only [Act.put, List.setIfInBounds_toArray, List.set_cons_zero, List.set_cons_succ]
          refine anyT_take (i := 13) (oi := { dst := some 80, op := Op.indexAddr 36 (Operand.tmp 78) (Operand.tmp 79), type := 0, pos := "law.go:114", after := #[{ on := 11, ground := Ground.data }, { on := 12, ground := Ground.data }, { on := 10, ground := Ground.guard }], guard := some (10, false) }) (v := ?_) rfl (by kernel_rfl) (by kernel_rfl) (by kernel_rfl) (by decide) (by decide) (by kernel_rfl) (by kernel_rfl) (fun _ _ _ h => h) (Or.inl ⟨by rfl, ?_⟩) hHeld inv (fun inv => ?_)
          rotate_left
          · intro w hSw
            try dsimp only at hSw
            go_simp
            try with_reducible rfl
          simp only [Act.put, List.setIfInBounds_toArray, List.set_cons_zero, List.set_cons_succ]
          refine anyT_take (i := 14) (oi := { dst := some 81, op := Op.load 30 (Operand.tmp 80), type := 30, pos := "law.go:114", after := #[{ on := 13, ground := Ground.data }, { on := 10, ground := Ground.guard }], guard := some (10, false) }) (v := ?_) rfl (by kernel_rfl) (by kernel_rfl) (by kernel_rfl) (by decide) (by decide) (by kernel_rfl) (by kernel_rfl) (fun _ _ _ h => h) (Or.inl ⟨by rfl, ?_⟩) hHeld inv (fun inv => ?_)
          rotate_left
          · intro w hSw
            try dsimp only at hSw
            go_simp
            try with_reducible rfl
          simp only [Act.put, List.setIfInBounds_toArray, List.set_cons_zero, List.set_cons_succ]
          refine anyT_take (i := 15) (oi := { dst := some 82, op := Op.move (Operand.tmp 11), type := 36, pos := "law.go:114", after := #[{ on := 10, ground := Ground.guard }], guard := some (10, false) }) (v := ?_) rfl (by kernel_rfl) (by kernel_rfl) (by kernel_rfl) (by decide) (by decide) (by kernel_rfl) (by kernel_rfl) (fun _ _ _ h => h) (Or.inl ⟨by rfl, ?_⟩) hHeld inv (fun inv => ?_)
          rotate_left
          · intro w hSw
            try dsimp only at hSw
            go_simp
            try with_reducible rfl
          simp only [Act.put, List.setIfInBounds_toArray, List.set_cons_zero, List.set_cons_succ]
          refine anyT_take (i := 16) (oi := { dst := some 83, op := Op.move (Operand.tmp 12), type := 3, pos := "law.go:114", after := #[{ on := 10, ground := Ground.guard }], guard := some (10, false) }) (v := ?_) rfl (by kernel_rfl) (by kernel_rfl) (by kernel_rfl) (by decide) (by decide) (by kernel_rfl) (by kernel_rfl) (fun _ _ _ h => h) (Or.inl ⟨by rfl, ?_⟩) hHeld inv (fun inv => ?_)
          rotate_left
          · intro w hSw
            try dsimp only at hSw
            go_simp
            try with_reducible rfl
          simp only [Act.put, List.setIfInBounds_toArray, List.set_cons_zero, List.set_cons_succ]
          refine anyT_take (i := 17) (oi := { dst := some 84, op := Op.indexAddr 36 (Operand.tmp 82) (Operand.tmp 83), type := 0, pos := "law.go:114", after := #[{ on := 15, ground := Ground.data }, { on := 16, ground := Ground.data }, { on := 10, ground := Ground.guard }], guard := some (10, false) }) (v := ?_) rfl (by kernel_rfl) (by kernel_rfl) (by kernel_rfl) (by decide) (by decide) (by kernel_rfl) (by kernel_rfl) (fun _ _ _ h => h) (Or.inl ⟨by rfl, ?_⟩) hHeld inv (fun inv => ?_)
          rotate_left
          · intro w hSw
            try dsimp only at hSw
            go_simp
            try with_reducible rfl
          simp only [Act.put, List.setIfInBounds_toArray, List.set_cons_zero, List.set_cons_succ]
          refine anyT_take (i := 18) (oi := { dst := some 85, op := Op.load 30 (Operand.tmp 84), type := 30, pos := "law.go:114", after := #[{ on := 17, ground := Ground.data }, { on := 10, ground := Ground.guard }], guard := some (10, false) }) (v := ?_) rfl (by kernel_rfl) (by kernel_rfl) (by kernel_rfl) (by decide) (by decide) (by kernel_rfl) (by kernel_rfl) (fun _ _ _ h => h) (Or.inl ⟨by rfl, ?_⟩) hHeld inv (fun inv => ?_)
          rotate_left
          · intro w hSw
            try dsimp only at hSw
            go_simp
            try with_reducible rfl
          simp only [Act.put, List.setIfInBounds_toArray, List.set_cons_zero, List.set_cons_succ]
          refine anyT_next (i := 19) (o := { dst := some 86, op := Op.call { callee := Callee.value (Operand.func 24), args := #[Operand.tmp 81, Operand.tmp 85], argTypes := #[30, 30] }, type := 4, pos := "law.go:114", after := #[{ on := 14, ground := Ground.data }, { on := 18, ground := Ground.data }, { on := 10, ground := Ground.chain }, { on := 10, ground := Ground.guard }], guard := some (10, false) }) (by kernel_rfl) rfl (by decide) inv (fun inv K' hK => ?_)
          go_simp
          refine (kin2.out _).mono ?_
          rintro e w8 ⟨rfl, rfl⟩
          go_wp2_with fail
          refine hK.out _ _ hHeld ?_
          clear hK K'
          try simp only [Act.put, List.setIfInBounds_toArray, List.set_cons_zero, List.set_cons_succ]
          refine anyT_take (i := 20) (oi := { dst := some 87, op := Op.unOp UnOp.not 4 (Operand.tmp 86), type := 4, pos := "law.go:114", after := #[{ on := 19, ground := Ground.data }, { on := 10, ground := Ground.guard }], guard := some (10, false) }) (v := ?_) rfl (by kernel_rfl) (by kernel_rfl) (by kernel_rfl) (by decide) (by decide) (by kernel_rfl) (by kernel_rfl) (fun _ _ _ h => h) (Or.inl ⟨by rfl, ?_⟩) hHeld inv (fun inv => ?_)
          rotate_left
          · intro w hSw
            try dsimp only at hSw
            go_simp
            try with_reducible rfl
          simp only [Act.put, List.setIfInBounds_toArray, List.set_cons_zero, List.set_cons_succ]
          refine anyT_take (i := 21) (oi := { dst := some 88, op := Op.pick (Operand.tmp 77) (Operand.const (Value.bool true)) (Operand.tmp 87), type := 4, pos := "law.go:114", after := #[{ on := 10, ground := Ground.data }, { on := 20, ground := Ground.data }], guard := none }) (v := ?_) rfl (by kernel_rfl) (by kernel_rfl) (by kernel_rfl) (by decide) (by decide) (by kernel_rfl) (by kernel_rfl) (fun _ _ _ h => h) (Or.inl ⟨by rfl, ?_⟩) hHeld inv (fun inv => ?_)
          rotate_left
          · intro w hSw
            try dsimp only at hSw
            go_simp
            try with_reducible rfl
          simp only [Act.put, List.setIfInBounds_toArray, List.set_cons_zero, List.set_cons_succ]
          refine anyT_take (i := 22) (oi := { dst := some 89, op := Op.move (Operand.tmp 88), type := 4, pos := "law.go:114", after := #[{ on := 21, ground := Ground.data }, { on := 19, ground := Ground.chain }], guard := none }) (v := ?_) rfl (by kernel_rfl) (by kernel_rfl) (by kernel_rfl) (by decide) (by decide) (by kernel_rfl) (by kernel_rfl) (fun _ _ _ h => h) (Or.inl ⟨by rfl, ?_⟩) hHeld inv (fun inv => ?_)
          rotate_left
          · intro w hSw
            try dsimp only at hSw
            go_simp
            try with_reducible rfl
          simp only [Act.put, List.setIfInBounds_toArray, List.set_cons_zero, List.set_cons_succ]
          refine anyT_take (i := 23) (oi := { dst := some 90, op := Op.load 27 (Operand.tmp 2), type := 27, pos := "law.go:114", after := #[{ on := 22, ground := Ground.guard }], guard := some (22, false) }) (v := ?_) rfl (by kernel_rfl) (by kernel_rfl) (by kernel_rfl) (by decide) (by decide) (by kernel_rfl) (by kernel_rfl) (fun _ _ _ h => h) (Or.inl ⟨by rfl, ?_⟩) hHeld inv (fun inv => ?_)
          rotate_left
          · intro w hSw
            try dsimp only at hSw
            go_simp
            try with_reducible rfl
          simp only [Act.put, List.setIfInBounds_toArray, List.set_cons_zero, List.set_cons_succ]
          refine anyT_take (i := 25) (oi := { dst := some 92, op := Op.move (Operand.tmp 12), type := 3, pos := "law.go:114", after := #[{ on := 22, ground := Ground.guard }], guard := some (22, false) }) (v := ?_) rfl (by kernel_rfl) (by kernel_rfl) (by kernel_rfl) (by decide) (by decide) (by kernel_rfl) (by kernel_rfl) (fun _ _ _ h => h) (Or.inl ⟨by rfl, ?_⟩) hHeld inv (fun inv => ?_)
          rotate_left
          · intro w hSw
            try dsimp only at hSw
            go_simp
            try with_reducible rfl
          simp only [Act.put, List.setIfInBounds_toArray, List.set_cons_zero, List.set_cons_succ]
          have hd := hHeld
          have hCd := hCw.drew
          have BW := hid hbw.drew
          refine anyT_next (i := 24) (o := { dst := some 91, op := Op.call { callee := Callee.value (Operand.func 12), args := #[Operand.tmp 90], argTypes := #[27] }, type := 33, pos := "law.go:114", after := #[{ on := 23, ground := Ground.data }, { on := 22, ground := Ground.chain }, { on := 22, ground := Ground.guard }], guard := some (22, false) }) (by kernel_rfl) rfl (by decide) inv (fun inv K' hK => ?_)
          go_simp
          refine (kE.out (by first | exact trivial | exact hvb) _ (HBY.out.trans (hCd.mono hsy))).mono ?_
          rintro e w8 ⟨c1, E', rfl, hE', x5, _, hBq⟩
          replace y0' := cell_below hBq y0'
          replace y1' := cell_below hBq y1'
          replace y2' := cell_below hBq y2'
          replace y3' := cell_below hBq y3'
          replace y4' := cell_below hBq y4'
          replace z0' := cell_below hBq z0'
          replace z1' := cell_below hBq z1'
          replace z2' := cell_below hBq z2'
          replace z3' := cell_below hBq z3'
          replace z4' := cell_below hBq z4'
          replace a1 := cell_below hBq a1
          replace a2 := cell_below hBq a2
          replace a3 := cell_below hBq a3
          replace a4 := cell_below hBq a4
          clear hd
          have hd : w8.cell? ⟨Bg, 0, none⟩ = some (.slice ta nt tc) ∧ w8.cell? ⟨Bg, 1, none⟩ = some (.slice oa no oc) ∧ w8.cell? ⟨Bg, 2, none⟩ = some (.slice sa ns sc) ∧ w8.cell? ⟨Bg, 3, none⟩ = some (.slice pa np pc) ∧ w8.cell? ⟨Bg, 4, none⟩ = some (.int .i64 G.start) ∧ w8.cell? ⟨Bh, 0, none⟩ = some (.slice ta nt tc) ∧ w8.cell? ⟨Bh, 1, none⟩ = some (.slice oa no oc) ∧ w8.cell? ⟨Bh, 2, none⟩ = some (.slice sa ns sc) ∧ w8.cell? ⟨Bh, 3, none⟩ = some (.slice (some ⟨gb, 0, none⟩) (np + 1) cap) ∧ w8.cell? ⟨Bh, 4, none⟩ = some (.int .i64 G.start) ∧ w8.cell? ⟨b1, k, none⟩ = some (.int .u64 (f1 : Int)) ∧ w8.cell? ⟨b2, k, none⟩ = some (.int .u64 (f2 : Int)) ∧ w8.cell? ⟨b3, k, none⟩ = some (.int .u64 (g1 : Int)) ∧ w8.cell? ⟨b4, k, none⟩ = some (.int .u64 (g2 : Int)) := ⟨y0', y1', y2', y3', y4', z0', z1', z2', z3', z4', a1, a2, a3, a4⟩
          obtain rfl := HE.out.same hE'
          have x6 := XE.out _ _ x5
          have BW := hid (BW.out.trans (hBq.mono BW.out.size))
          have hCd := hCd.trans (hBq.mono hCd.size)
          clear x5 hE' hBq
          go_wp2_with fail
          refine hK.out _ _ hd ?_
          clear hK K'
          try simp only [Act.put, List.setIfInBounds_toArray, List.set_cons_zero, List.set_cons_succ]
          refine anyT_take (i := 26) (oi := { dst := some 93, op := Op.indexAddr 33 (Operand.tmp 91) (Operand.tmp 92), type := 0, pos := "law.go:114", after := #[{ on := 24, ground := Ground.data }, { on := 25, ground := Ground.data }, { on := 22, ground := Ground.guard }], guard := some (22, false) }) (v := ?_) rfl (by kernel_rfl) (by kernel_rfl) (by kernel_rfl) (by decide) (by decide) (by kernel_rfl) (by kernel_rfl) (fun _ _ _ h => h) (Or.inl ⟨by rfl, ?_⟩) hd inv (fun inv => ?_)
          rotate_left
          · intro w hSw
            try dsimp only at hSw
            go_simp
            try with_reducible rfl
          simp only [Act.put, List.setIfInBounds_toArray, List.set_cons_zero, List.set_cons_succ]
          refine anyT_next (i := 27) (o := { dst := some 94, op := Op.load 4 (Operand.tmp 93), type := 4, pos := "law.go:114", after := #[{ on := 26, ground := Ground.data }, { on := 22, ground := Ground.guard }], guard := some (22, false) }) (by kernel_rfl) rfl (by decide) inv (fun inv K' hK => ?_)
          go_simp
          refine hK.out _ _ hd ?_
          clear hK K'
          try simp only [Act.put, List.setIfInBounds_toArray, List.set_cons_zero, List.set_cons_succ]
          refine anyT_take (i := 28) (oi := { dst := some 95, op := Op.move (Operand.tmp 94), type := 4, pos := "law.go:114", after := #[{ on := 27, ground := Ground.data }, { on := 24, ground := Ground.chain }, { on := 22, ground := Ground.guard }], guard := some (22, false) }) (v := ?_) rfl (by kernel_rfl) (by kernel_rfl) (by kernel_rfl) (by decide) (by decide) (by kernel_rfl) (by kernel_rfl) (fun _ _ _ h => h) (Or.inl ⟨by rfl, ?_⟩) hd inv (fun inv => ?_)
          rotate_left
          · intro w hSw
            try dsimp only at hSw
            go_simp
            try with_reducible rfl
          simp only [Act.put, List.setIfInBounds_toArray, List.set_cons_zero, List.set_cons_succ]
          refine anyT_take (i := 29) (oi := { dst := some 96, op := Op.load 27 (Operand.tmp 7), type := 27, pos := "law.go:114", after := #[{ on := 28, ground := Ground.guard }], guard := some (28, true) }) (v := ?_) rfl (by kernel_rfl) (by kernel_rfl) (by kernel_rfl) (by decide) (by decide) (by kernel_rfl) (by kernel_rfl) (fun _ _ _ h => h) (Or.inl ⟨by rfl, ?_⟩) hd inv (fun inv => ?_)
          rotate_left
          · intro w hSw
            try dsimp only at hSw
            go_simp
            try with_reducible rfl
          simp only [Act.put, List.setIfInBounds_toArray, List.set_cons_zero, List.set_cons_succ]
          refine anyT_take (i := 31) (oi := { dst := some 98, op := Op.move (Operand.tmp 12), type := 3, pos := "law.go:114", after := #[{ on := 28, ground := Ground.guard }], guard := some (28, true) }) (v := ?_) rfl (by kernel_rfl) (by kernel_rfl) (by kernel_rfl) (by decide) (by decide) (by kernel_rfl) (by kernel_rfl) (fun _ _ _ h => h) (Or.inl ⟨by rfl, ?_⟩) hd inv (fun inv => ?_)
          rotate_left
          · intro w hSw
            try dsimp only at hSw
            go_simp
            try with_reducible rfl
          simp only [Act.put, List.setIfInBounds_toArray, List.set_cons_zero, List.set_cons_succ]
          refine anyT_next (i := 30) (o := { dst := some 97, op := Op.call { callee := Callee.value (Operand.func 12), args := #[Operand.tmp 96], argTypes := #[27] }, type := 33, pos := "law.go:114", after := #[{ on := 29, ground := Ground.data }, { on := 28, ground := Ground.chain }, { on := 28, ground := Ground.guard }], guard := some (28, true) }) (by kernel_rfl) rfl (by decide) inv (fun inv K' hK => ?_)
          go_simp
          refine (kEH.out (by simp) _ hCd).mono ?_
          rintro e w9 ⟨c2, E'', rfl, hE', x5, _, hBq⟩
          replace y0' := cell_below hBq y0'
          replace y1' := cell_below hBq y1'
          replace y2' := cell_below hBq y2'
          replace y3' := cell_below hBq y3'
          replace y4' := cell_below hBq y4'
          replace z0' := cell_below hBq z0'
          replace z1' := cell_below hBq z1'
          replace z2' := cell_below hBq z2'
          replace z3' := cell_below hBq z3'
          replace z4' := cell_below hBq z4'
          replace a1 := cell_below hBq a1
          replace a2 := cell_below hBq a2
          replace a3 := cell_below hBq a3
          replace a4 := cell_below hBq a4
          clear hd
          have hd : w9.cell? ⟨Bg, 0, none⟩ = some (.slice ta nt tc) ∧ w9.cell? ⟨Bg, 1, none⟩ = some (.slice oa no oc) ∧ w9.cell? ⟨Bg, 2, none⟩ = some (.slice sa ns sc) ∧ w9.cell? ⟨Bg, 3, none⟩ = some (.slice pa np pc) ∧ w9.cell? ⟨Bg, 4, none⟩ = some (.int .i64 G.start) ∧ w9.cell? ⟨Bh, 0, none⟩ = some (.slice ta nt tc) ∧ w9.cell? ⟨Bh, 1, none⟩ = some (.slice oa no oc) ∧ w9.cell? ⟨Bh, 2, none⟩ = some (.slice sa ns sc) ∧ w9.cell? ⟨Bh, 3, none⟩ = some (.slice (some ⟨gb, 0, none⟩) (np + 1) cap) ∧ w9.cell? ⟨Bh, 4, none⟩ = some (.int .i64 G.start) ∧ w9.cell? ⟨b1, k, none⟩ = some (.int .u64 (f1 : Int)) ∧ w9.cell? ⟨b2, k, none⟩ = some (.int .u64 (f2 : Int)) ∧ w9.cell? ⟨b3, k, none⟩ = some (.int .u64 (g1 : Int)) ∧ w9.cell? ⟨b4, k, none⟩ = some (.int .u64 (g2 : Int)) := ⟨y0', y1', y2', y3', y4', z0', z1', z2', z3', z4', a1, a2, a3, a4⟩
          obtain rfl := HE2.out.same hE'
          have x7 := XE2.out _ _ x5
          have BW := hid (BW.out.trans (hBq.mono BW.out.size))
          have hCd := hCd.trans (hBq.mono hCd.size)
          clear x5 x6 hE' hBq
          go_wp2_with fail
          refine hK.out _ _ hd ?_
          clear hK K'
          try simp only [Act.put, List.setIfInBounds_toArray, List.set_cons_zero, List.set_cons_succ]
          refine anyT_take (i := 32) (oi := { dst := some 99, op := Op.indexAddr 33 (Operand.tmp 97) (Operand.tmp 98), type := 0, pos := "law.go:114", after := #[{ on := 30, ground := Ground.data }, { on := 31, ground := Ground.data }, { on := 28, ground := Ground.guard }], guard := some (28, true) }) (v := ?_) rfl (by kernel_rfl) (by kernel_rfl) (by kernel_rfl) (by decide) (by decide) (by kernel_rfl) (by kernel_rfl) (fun _ _ _ h => h) (Or.inl ⟨by rfl, ?_⟩) hd inv (fun inv => ?_)
          rotate_left
          · intro w hSw
            try dsimp only at hSw
            go_simp
            try with_reducible rfl
          simp only [Act.put, List.setIfInBounds_toArray, List.set_cons_zero, List.set_cons_succ]
          refine anyT_next (i := 33) (o := { dst := some 100, op := Op.load 4 (Operand.tmp 99), type := 4, pos := "law.go:114", after := #[{ on := 32, ground := Ground.data }, { on := 28, ground := Ground.guard }], guard := some (28, true) }) (by kernel_rfl) rfl (by decide) inv (fun inv K' hK => ?_)
          go_simp
          refine hK.out _ _ hd ?_
          clear hK K'
          try simp only [Act.put, List.setIfInBounds_toArray, List.set_cons_zero, List.set_cons_succ]
          refine anyT_take (i := 34) (oi := { dst := some 101, op := Op.unOp UnOp.not 4 (Operand.tmp 100), type := 4, pos := "law.go:114", after := #[{ on := 33, ground := Ground.data }, { on := 28, ground := Ground.guard }], guard := some (28, true) }) (v := ?_) rfl (by kernel_rfl) (by kernel_rfl) (by kernel_rfl) (by decide) (by decide) (by kernel_rfl) (by kernel_rfl) (fun _ _ _ h => h) (Or.inl ⟨by rfl, ?_⟩) hd inv (fun inv => ?_)
          rotate_left
          · intro w hSw
            try dsimp only at hSw
            go_simp
            try with_reducible rfl
          simp only [Act.put, List.setIfInBounds_toArray, List.set_cons_zero, List.set_cons_succ]
          refine anyT_take (i := 35) (oi := { dst := some 102, op := Op.pick (Operand.tmp 95) (Operand.tmp 101) (Operand.const (Value.bool false)), type := 4, pos := "law.go:114", after := #[{ on := 28, ground := Ground.data }, { on := 34, ground := Ground.data }, { on := 22, ground := Ground.guard }], guard := some (22, false) }) (v := ?_) rfl (by kernel_rfl) (by kernel_rfl) (by kernel_rfl) (by decide) (by decide) (by kernel_rfl) (by kernel_rfl) (fun _ _ _ h => h) (Or.inl ⟨by rfl, ?_⟩) hd inv (fun inv => ?_)
          rotate_left
          · intro w hSw
            try dsimp only at hSw
            go_simp
            try with_reducible rfl
          simp only [Act.put, List.setIfInBounds_toArray, List.set_cons_zero, List.set_cons_succ]
          refine anyT_take (i := 36) (oi := { dst := some 103, op := Op.pick (Operand.tmp 89) (Operand.const (Value.bool true)) (Operand.tmp 102), type := 4, pos := "law.go:114", after := #[{ on := 22, ground := Ground.data }, { on := 35, ground := Ground.data }], guard := none }) (v := ?_) rfl (by kernel_rfl) (by kernel_rfl) (by kernel_rfl) (by decide) (by decide) (by kernel_rfl) (by kernel_rfl) (fun _ _ _ h => h) (Or.inl ⟨by rfl, ?_⟩) hd inv (fun inv => ?_)
          rotate_left
          · intro w hSw
            try dsimp only at hSw
            go_simp
            try with_reducible rfl
          simp only [Act.put, List.setIfInBounds_toArray, List.set_cons_zero, List.set_cons_succ]
          refine anyT_take (i := 37) (oi := { dst := some 104, op := Op.move (Operand.tmp 103), type := 4, pos := "law.go:114", after := #[{ on := 36, ground := Ground.data }, { on := 30, ground := Ground.chain }], guard := none }) (v := ?_) rfl (by kernel_rfl) (by kernel_rfl) (by kernel_rfl) (by decide) (by decide) (by kernel_rfl) (by kernel_rfl) (fun _ _ _ h => h) (Or.inl ⟨by rfl, ?_⟩) hd inv (fun inv => ?_)
          rotate_left
          · intro w hSw
            try dsimp only at hSw
            go_simp
            try with_reducible rfl
          simp only [Act.put, List.setIfInBounds_toArray, List.set_cons_zero, List.set_cons_succ]
          refine anyT_take (i := 38) (oi := { dst := some 105, op := Op.load 27 (Operand.tmp 2), type := 27, pos := "law.go:114", after := #[{ on := 37, ground := Ground.guard }], guard := some (37, false) }) (v := ?_) rfl (by kernel_rfl) (by kernel_rfl) (by kernel_rfl) (by decide) (by decide) (by kernel_rfl) (by kernel_rfl) (fun _ _ _ h => h) (Or.inl ⟨by rfl, ?_⟩) hd inv (fun inv => ?_)
          rotate_left
          · intro w hSw
            try dsimp only at hSw
            go_simp
            try with_reducible rfl
          simp only [Act.put, List.setIfInBounds_toArray, List.set_cons_zero, List.set_cons_succ]
          refine anyT_take (i := 40) (oi := { dst := some 107, op := Op.move (Operand.tmp 12), type := 3, pos := "law.go:114", after := #[{ on := 37, ground := Ground.guard }], guard := some (37, false) }) (v := ?_) rfl (by kernel_rfl) (by kernel_rfl) (by kernel_rfl) (by decide) (by decide) (by kernel_rfl) (by kernel_rfl) (fun _ _ _ h => h) (Or.inl ⟨by rfl, ?_⟩) hd inv (fun inv => ?_)
          rotate_left
          · intro w hSw
            try dsimp only at hSw
            go_simp
            try with_reducible rfl
          simp only [Act.put, List.setIfInBounds_toArray, List.set_cons_zero, List.set_cons_succ]
          refine anyT_next (i := 39) (o := { dst := some 106, op := Op.call { callee := Callee.value (Operand.func 14), args := #[Operand.tmp 105], argTypes := #[27] }, type := 33, pos := "law.go:114", after := #[{ on := 38, ground := Ground.data }, { on := 37, ground := Ground.chain }, { on := 37, ground := Ground.guard }], guard := some (37, false) }) (by kernel_rfl) rfl (by decide) inv (fun inv K' hK => ?_)
          go_simp
          refine (kV.out (by first | exact trivial | exact hvb) _ (HBY.out.trans (hCd.mono hsy))).mono ?_
          rintro e w10 ⟨c3, LV, rfl, hV, x5, _, hBq⟩
          replace y0' := cell_below hBq y0'
          replace y1' := cell_below hBq y1'
          replace y2' := cell_below hBq y2'
          replace y3' := cell_below hBq y3'
          replace y4' := cell_below hBq y4'
          replace z0' := cell_below hBq z0'
          replace z1' := cell_below hBq z1'
          replace z2' := cell_below hBq z2'
          replace z3' := cell_below hBq z3'
          replace z4' := cell_below hBq z4'
          replace a1 := cell_below hBq a1
          replace a2 := cell_below hBq a2
          replace a3 := cell_below hBq a3
          replace a4 := cell_below hBq a4
          clear hd
          have hd : w10.cell? ⟨Bg, 0, none⟩ = some (.slice ta nt tc) ∧ w10.cell? ⟨Bg, 1, none⟩ = some (.slice oa no oc) ∧ w10.cell? ⟨Bg, 2, none⟩ = some (.slice sa ns sc) ∧ w10.cell? ⟨Bg, 3, none⟩ = some (.slice pa np pc) ∧ w10.cell? ⟨Bg, 4, none⟩ = some (.int .i64 G.start) ∧ w10.cell? ⟨Bh, 0, none⟩ = some (.slice ta nt tc) ∧ w10.cell? ⟨Bh, 1, none⟩ = some (.slice oa no oc) ∧ w10.cell? ⟨Bh, 2, none⟩ = some (.slice sa ns sc) ∧ w10.cell? ⟨Bh, 3, none⟩ = some (.slice (some ⟨gb, 0, none⟩) (np + 1) cap) ∧ w10.cell? ⟨Bh, 4, none⟩ = some (.int .i64 G.start) ∧ w10.cell? ⟨b1, k, none⟩ = some (.int .u64 (f1 : Int)) ∧ w10.cell? ⟨b2, k, none⟩ = some (.int .u64 (f2 : Int)) ∧ w10.cell? ⟨b3, k, none⟩ = some (.int .u64 (g1 : Int)) ∧ w10.cell? ⟨b4, k, none⟩ = some (.int .u64 (g2 : Int)) := ⟨y0', y1', y2', y3', y4', z0', z1', z2', z3', z4', a1, a2, a3, a4⟩
          have x8 := cell_bools x5 (i := k) (by rw [hV.length]; exact hlt)
          have BW := hid (BW.out.trans (hBq.mono BW.out.size))
          have hCd := hCd.trans (hBq.mono hCd.size)
          have HV := hid hV
          clear x5 hV hBq
          have hvv := fun LV2 (h : Least true _ ns LV2) => more_bool HSUB.out HV.out h k
          generalize LV.getD k false = lv at *
          have HVV := hid hvv
          clear hvv
          go_wp2_with fail
          refine hK.out _ _ hd ?_
          clear hK K'
          try simp only [Act.put, List.setIfInBounds_toArray, List.set_cons_zero, List.set_cons_succ]
          refine anyT_take (i := 41) (oi := { dst := some 108, op := Op.indexAddr 33 (Operand.tmp 106) (Operand.tmp 107), type := 0, pos := "law.go:114", after := #[{ on := 39, ground := Ground.data }, { on := 40, ground := Ground.data }, { on := 37, ground := Ground.guard }], guard := some (37, false) }) (v := ?_) rfl (by kernel_rfl) (by kernel_rfl) (by kernel_rfl) (by decide) (by decide) (by kernel_rfl) (by kernel_rfl) (fun _ _ _ h => h) (Or.inl ⟨by rfl, ?_⟩) hd inv (fun inv => ?_)
          rotate_left
          · intro w hSw
            try dsimp only at hSw
            go_simp
            try with_reducible rfl
          simp only [Act.put, List.setIfInBounds_toArray, List.set_cons_zero, List.set_cons_succ]
          refine anyT_next (i := 42) (o := { dst := some 109, op := Op.load 4 (Operand.tmp 108), type := 4, pos := "law.go:114", after := #[{ on := 41, ground := Ground.data }, { on := 37, ground := Ground.guard }], guard := some (37, false) }) (by kernel_rfl) rfl (by decide) inv (fun inv K' hK => ?_)
          go_simp
          refine hK.out _ _ hd ?_
          clear hK K'
          try simp only [Act.put, List.setIfInBounds_toArray, List.set_cons_zero, List.set_cons_succ]
          refine anyT_take (i := 43) (oi := { dst := some 110, op := Op.move (Operand.tmp 109), type := 4, pos := "law.go:114", after := #[{ on := 42, ground := Ground.data }, { on := 39, ground := Ground.chain }, { on := 37, ground := Ground.guard }], guard := some (37, false) }) (v := ?_) rfl (by kernel_rfl) (by kernel_rfl) (by kernel_rfl) (by decide) (by decide) (by kernel_rfl) (by kernel_rfl) (fun _ _ _ h => h) (Or.inl ⟨by rfl, ?_⟩) hd inv (fun inv => ?_)
          rotate_left
          · intro w hSw
            try dsimp only at hSw
            go_simp
            try with_reducible rfl
          simp only [Act.put, List.setIfInBounds_toArray, List.set_cons_zero, List.set_cons_succ]
          cases lv
          · refine anyT_take (i := 44) (oi := { dst := some 111, op := Op.load 27 (Operand.tmp 7), type := 27, pos := "law.go:114", after := #[{ on := 43, ground := Ground.guard }], guard := some (43, true) }) (v := undef) rfl (by kernel_rfl) (by kernel_rfl) (by kernel_rfl) (by decide) (by decide) (by kernel_rfl) (by kernel_rfl) (fun _ _ _ h => h) (Or.inr ⟨by rfl, rfl⟩) hd inv (fun inv => ?_)
            simp only [Act.put, List.setIfInBounds_toArray, List.set_cons_zero, List.set_cons_succ]
            refine anyT_take (i := 45) (oi := { dst := some 112, op := Op.call { callee := Callee.value (Operand.func 14), args := #[Operand.tmp 111], argTypes := #[27] }, type := 33, pos := "law.go:114", after := #[{ on := 44, ground := Ground.data }, { on := 43, ground := Ground.chain }, { on := 43, ground := Ground.guard }], guard := some (43, true) }) (v := undef) rfl (by kernel_rfl) (by kernel_rfl) (by kernel_rfl) (by decide) (by decide) (by kernel_rfl) (by kernel_rfl) (fun _ _ _ h => h) (Or.inr ⟨by rfl, rfl⟩) hd inv (fun inv => ?_)
            simp only [Act.put, List.setIfInBounds_toArray, List.set_cons_zero, List.set_cons_succ]
            refine anyT_take (i := 46) (oi := { dst := some 113, op := Op.move (Operand.tmp 12), type := 3, pos := "law.go:114", after := #[{ on := 43, ground := Ground.guard }], guard := some (43, true) }) (v := undef) rfl (by kernel_rfl) (by kernel_rfl) (by kernel_rfl) (by decide) (by decide) (by kernel_rfl) (by kernel_rfl) (fun _ _ _ h => h) (Or.inr ⟨by rfl, rfl⟩) hd inv (fun inv => ?_)
            simp only [Act.put, List.setIfInBounds_toArray, List.set_cons_zero, List.set_cons_succ]
            refine anyT_take (i := 47) (oi := { dst := some 114, op := Op.indexAddr 33 (Operand.tmp 112) (Operand.tmp 113), type := 0, pos := "law.go:114", after := #[{ on := 45, ground := Ground.data }, { on := 46, ground := Ground.data }, { on := 43, ground := Ground.guard }], guard := some (43, true) }) (v := undef) rfl (by kernel_rfl) (by kernel_rfl) (by kernel_rfl) (by decide) (by decide) (by kernel_rfl) (by kernel_rfl) (fun _ _ _ h => h) (Or.inr ⟨by rfl, rfl⟩) hd inv (fun inv => ?_)
            simp only [Act.put, List.setIfInBounds_toArray, List.set_cons_zero, List.set_cons_succ]
            refine anyT_take (i := 48) (oi := { dst := some 115, op := Op.load 4 (Operand.tmp 114), type := 4, pos := "law.go:114", after := #[{ on := 47, ground := Ground.data }, { on := 43, ground := Ground.guard }], guard := some (43, true) }) (v := undef) rfl (by kernel_rfl) (by kernel_rfl) (by kernel_rfl) (by decide) (by decide) (by kernel_rfl) (by kernel_rfl) (fun _ _ _ h => h) (Or.inr ⟨by rfl, rfl⟩) hd inv (fun inv => ?_)
            simp only [Act.put, List.setIfInBounds_toArray, List.set_cons_zero, List.set_cons_succ]
            refine anyT_take (i := 49) (oi := { dst := some 116, op := Op.unOp UnOp.not 4 (Operand.tmp 115), type := 4, pos := "law.go:114", after := #[{ on := 48, ground := Ground.data }, { on := 43, ground := Ground.guard }], guard := some (43, true) }) (v := undef) rfl (by kernel_rfl) (by kernel_rfl) (by kernel_rfl) (by decide) (by decide) (by kernel_rfl) (by kernel_rfl) (fun _ _ _ h => h) (Or.inr ⟨by rfl, rfl⟩) hd inv (fun inv => ?_)
            simp only [Act.put, List.setIfInBounds_toArray, List.set_cons_zero, List.set_cons_succ]
            refine anyT_take (i := 50) (oi := { dst := some 117, op := Op.pick (Operand.tmp 110) (Operand.tmp 116) (Operand.const (Value.bool false)), type := 4, pos := "law.go:114", after := #[{ on := 43, ground := Ground.data }, { on := 49, ground := Ground.data }, { on := 37, ground := Ground.guard }], guard := some (37, false) }) (v := ?_) rfl (by kernel_rfl) (by kernel_rfl) (by kernel_rfl) (by decide) (by decide) (by kernel_rfl) (by kernel_rfl) (fun _ _ _ h => h) (Or.inl ⟨by rfl, ?_⟩) hd inv (fun inv => ?_)
            rotate_left
            · intro w hSw
              try dsimp only at hSw
              go_simp
              try with_reducible rfl
            simp only [Act.put, List.setIfInBounds_toArray, List.set_cons_zero, List.set_cons_succ]
            refine anyT_one (i := 51) (o := { dst := some 118, op := Op.pick (Operand.tmp 104) (Operand.const (Value.bool true)) (Operand.tmp 117), type := 4, pos := "law.go:114", after := #[{ on := 37, ground := Ground.data }, { on := 50, ground := Ground.data }], guard := none }) (by kernel_rfl) rfl (fun K' hK => ?_)
            go_simp
            refine hK.out _ _ (fun h => absurd h (by decide)) ?_
            clear hK K'
            try simp only [Act.put, List.setIfInBounds_toArray, List.set_cons_zero, List.set_cons_succ]
            refine anyT_done (by kernel_rfl) ?_ _
            go_wp2
            exact ⟨⟨k + 1, by omega, by go_num, BW.out⟩, by simp [RowKit.intOf]; omega⟩
          · refine anyT_take (i := 44) (oi := { dst := some 111, op := Op.load 27 (Operand.tmp 7), type := 27, pos := "law.go:114", after := #[{ on := 43, ground := Ground.guard }], guard := some (43, true) }) (v := ?_) rfl (by kernel_rfl) (by kernel_rfl) (by kernel_rfl) (by decide) (by decide) (by kernel_rfl) (by kernel_rfl) (fun _ _ _ h => h) (Or.inl ⟨by rfl, ?_⟩) hd inv (fun inv => ?_)
            rotate_left
            · intro w hSw
              try dsimp only at hSw
              go_simp
              try with_reducible rfl
            simp only [Act.put, List.setIfInBounds_toArray, List.set_cons_zero, List.set_cons_succ]
            refine anyT_take (i := 46) (oi := { dst := some 113, op := Op.move (Operand.tmp 12), type := 3, pos := "law.go:114", after := #[{ on := 43, ground := Ground.guard }], guard := some (43, true) }) (v := ?_) rfl (by kernel_rfl) (by kernel_rfl) (by kernel_rfl) (by decide) (by decide) (by kernel_rfl) (by kernel_rfl) (fun _ _ _ h => h) (Or.inl ⟨by rfl, ?_⟩) hd inv (fun inv => ?_)
            rotate_left
            · intro w hSw
              try dsimp only at hSw
              go_simp
              try with_reducible rfl
            simp only [Act.put, List.setIfInBounds_toArray, List.set_cons_zero, List.set_cons_succ]
            refine anyT_next (i := 45) (o := { dst := some 112, op := Op.call { callee := Callee.value (Operand.func 14), args := #[Operand.tmp 111], argTypes := #[27] }, type := 33, pos := "law.go:114", after := #[{ on := 44, ground := Ground.data }, { on := 43, ground := Ground.chain }, { on := 43, ground := Ground.guard }], guard := some (43, true) }) (by kernel_rfl) rfl (by decide) inv (fun inv K' hK => ?_)
            go_simp
            refine (kVH.out (by simp) _ hCd).mono ?_
            rintro e w11 ⟨c4, LV2, rfl, hV2, x5, _, hBq⟩
            replace y0' := cell_below hBq y0'
            replace y1' := cell_below hBq y1'
            replace y2' := cell_below hBq y2'
            replace y3' := cell_below hBq y3'
            replace y4' := cell_below hBq y4'
            replace z0' := cell_below hBq z0'
            replace z1' := cell_below hBq z1'
            replace z2' := cell_below hBq z2'
            replace z3' := cell_below hBq z3'
            replace z4' := cell_below hBq z4'
            replace a1 := cell_below hBq a1
            replace a2 := cell_below hBq a2
            replace a3 := cell_below hBq a3
            replace a4 := cell_below hBq a4
            clear hd
            have hd : w11.cell? ⟨Bg, 0, none⟩ = some (.slice ta nt tc) ∧ w11.cell? ⟨Bg, 1, none⟩ = some (.slice oa no oc) ∧ w11.cell? ⟨Bg, 2, none⟩ = some (.slice sa ns sc) ∧ w11.cell? ⟨Bg, 3, none⟩ = some (.slice pa np pc) ∧ w11.cell? ⟨Bg, 4, none⟩ = some (.int .i64 G.start) ∧ w11.cell? ⟨Bh, 0, none⟩ = some (.slice ta nt tc) ∧ w11.cell? ⟨Bh, 1, none⟩ = some (.slice oa no oc) ∧ w11.cell? ⟨Bh, 2, none⟩ = some (.slice sa ns sc) ∧ w11.cell? ⟨Bh, 3, none⟩ = some (.slice (some ⟨gb, 0, none⟩) (np + 1) cap) ∧ w11.cell? ⟨Bh, 4, none⟩ = some (.int .i64 G.start) ∧ w11.cell? ⟨b1, k, none⟩ = some (.int .u64 (f1 : Int)) ∧ w11.cell? ⟨b2, k, none⟩ = some (.int .u64 (f2 : Int)) ∧ w11.cell? ⟨b3, k, none⟩ = some (.int .u64 (g1 : Int)) ∧ w11.cell? ⟨b4, k, none⟩ = some (.int .u64 (g2 : Int)) := ⟨y0', y1', y2', y3', y4', z0', z1', z2', z3', z4', a1, a2, a3, a4⟩
            have x9 := cell_bools x5 (i := k) (by rw [hV2.length]; exact hlt)
            rw [HVV.out LV2 hV2 rfl] at x9
            have BW := hid (BW.out.trans (hBq.mono BW.out.size))
            have hCd := hCd.trans (hBq.mono hCd.size)
            clear x5 hV2 hBq
            go_wp2_with fail
            refine hK.out _ _ hd ?_
            clear hK K'
            try simp only [Act.put, List.setIfInBounds_toArray, List.set_cons_zero, List.set_cons_succ]
            refine anyT_take (i := 47) (oi := { dst := some 114, op := Op.indexAddr 33 (Operand.tmp 112) (Operand.tmp 113), type := 0, pos := "law.go:114", after := #[{ on := 45, ground := Ground.data }, { on := 46, ground := Ground.data }, { on := 43, ground := Ground.guard }], guard := some (43, true) }) (v := ?_) rfl (by kernel_rfl) (by kernel_rfl) (by kernel_rfl) (by decide) (by decide) (by kernel_rfl) (by kernel_rfl) (fun _ _ _ h => h) (Or.inl ⟨by rfl, ?_⟩) hd inv (fun inv => ?_)
            rotate_left
            · intro w hSw
              try dsimp only at hSw
              go_simp
              try with_reducible rfl
            simp only [Act.put, List.setIfInBounds_toArray, List.set_cons_zero, List.set_cons_succ]
            refine anyT_next (i := 48) (o := { dst := some 115, op := Op.load 4 (Operand.tmp 114), type := 4, pos := "law.go:114", after := #[{ on := 47, ground := Ground.data }, { on := 43, ground := Ground.guard }], guard := some (43, true) }) (by kernel_rfl) rfl (by decide) inv (fun inv K' hK => ?_)
            go_simp
            refine hK.out _ _ hd ?_
            clear hK K'
            try simp only [Act.put, List.setIfInBounds_toArray, List.set_cons_zero, List.set_cons_succ]
            refine anyT_take (i := 49) (oi := { dst := some 116, op := Op.unOp UnOp.not 4 (Operand.tmp 115), type := 4, pos := "law.go:114", after := #[{ on := 48, ground := Ground.data }, { on := 43, ground := Ground.guard }], guard := some (43, true) }) (v := ?_) rfl (by kernel_rfl) (by kernel_rfl) (by kernel_rfl) (by decide) (by decide) (by kernel_rfl) (by kernel_rfl) (fun _ _ _ h => h) (Or.inl ⟨by rfl, ?_⟩) hd inv (fun inv => ?_)
            rotate_left
            · intro w hSw
              try dsimp only at hSw
              go_simp
              try with_reducible rfl
            simp only [Act.put, List.setIfInBounds_toArray, List.set_cons_zero, List.set_cons_succ]
            refine anyT_take (i := 50) (oi := { dst := some 117, op := Op.pick (Operand.tmp 110) (Operand.tmp 116) (Operand.const (Value.bool false)), type := 4, pos := "law.go:114", after := #[{ on := 43, ground := Ground.data }, { on := 49, ground := Ground.data }, { on := 37, ground := Ground.guard }], guard := some (37, false) }) (v := ?_) rfl (by kernel_rfl) (by kernel_rfl) (by kernel_rfl) (by decide) (by decide) (by kernel_rfl) (by kernel_rfl) (fun _ _ _ h => h) (Or.inl ⟨by rfl, ?_⟩) hd inv (fun inv => ?_)
            rotate_left
            · intro w hSw
              try dsimp only at hSw
              go_simp
              try with_reducible rfl
            simp only [Act.put, List.setIfInBounds_toArray, List.set_cons_zero, List.set_cons_succ]
            refine anyT_one (i := 51) (o := { dst := some 118, op := Op.pick (Operand.tmp 104) (Operand.const (Value.bool true)) (Operand.tmp 117), type := 4, pos := "law.go:114", after := #[{ on := 37, ground := Ground.data }, { on := 50, ground := Ground.data }], guard := none }) (by kernel_rfl) rfl (fun K' hK => ?_)
            go_simp
            refine hK.out _ _ (fun h => absurd h (by decide)) ?_
            clear hK K'
            try simp only [Act.put, List.setIfInBounds_toArray, List.set_cons_zero, List.set_cons_succ]
            refine anyT_done (by kernel_rfl) ?_ _
            go_wp2
            exact ⟨⟨k + 1, by omega, by go_num, BW.out⟩, by simp [RowKit.intOf]; omega⟩
      · have i1 : ¬ ((k : Int) < (ns : Int)) := by omega
        go_wp2
        go_ret
        exact ⟨rfl, by first | exact hb.trans ((HBY.out.trans (hCw.mono hsy)).mono hsz) | (rw [hbp]; exact hb.trans ((HBY.out.trans (hCw.mono hsy)).mono hsz))⟩

end Go.Proofs.Ytmfobiimihaiiaa
