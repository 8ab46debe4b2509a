/- The walk of StatesMore. -/
import Derived.Deep.RegionHeld3
import Derived.Laws.NewBlocks
import Derived.Deep.DeepCutAuto
import Derived.Test.YtjpbhbfklkipkaaDoorTi
namespace Go.Proofs.YtjpbhbfklkipkaaDoor
open Go Go.RowKit Go.Lib Go.Joins
open X14 (It closeV stepV stepX closeX behX iterB BuiltOk BuiltMany symsX)
set_option linter.unusedVariables false
set_option linter.unusedSimpArgs false
theorem heap_keep {W W2 : World} (h : Below W.heap.size W W2) {k : Nat} {o : Obj} (ho : W.heap[k]? = some o) : W2.heap[k]? = some o := (h.block k (Array.getElem?_eq_some_iff.1 ho).1).trans ho
theorem new_block2 (w : World) (o o2 : Obj) : ((w.alloc o).alloc o2).heap[w.heap.size + 1]? = some o2 := by have := new_block (w.alloc o) o2; simpa using this
theorem below_al2 {a b : World} (h : Below a.heap.size a b) (o : Obj) : Below a.heap.size a (b.alloc o) := h.alloc h.size _
/-- What comes of Build: an error, or an automaton that is built. -/
theorem build_case {G : GD} {w' : World} {e : Ending} (h : (validB G = false ∧ e = .returned (.tuple #[noAut, .int .i64 1])) ∨ (validB G = true ∧ ∃ n, (BuiltMany G n ∧ e = .returned (.tuple #[noAut, .int .i64 4])) ∨ (BuiltOk G n ∧ ∃ av, e = .returned (.tuple #[av, .int .i64 0]) ∧ AutAt w' av (iterB G n).ker (iterB G n).nx))) :
    ∃ ko kn kc no nn nc er, e = .returned (.tuple #[.agg #[.slice ko kn kc, .slice no nn nc], .int .i64 er]) ∧ ((er = 1 ∨ er = 4) ∨ (er = 0 ∧ ∃ n, BuiltOk G n ∧ AutAt w' (.agg #[.slice ko kn kc, .slice no nn nc]) (iterB G n).ker (iterB G n).nx)) := by
  rcases h with ⟨_, rfl⟩ | ⟨_, n, ⟨_, rfl⟩ | ⟨h1, av, rfl, h2⟩⟩
  · exact ⟨none, 0, 0, none, 0, 0, 1, rfl, .inl (.inl rfl)⟩
  · exact ⟨none, 0, 0, none, 0, 0, 4, rfl, .inl (.inr rfl)⟩
  · have h3 := h2
    obtain ⟨kv, nv, rfl, hk, hn⟩ := h3
    obtain ⟨ko, kc, rfl, _⟩ := hk.len
    obtain ⟨no, nc, rfl, _⟩ := hn.len
    exact ⟨_, _, _, _, _, _, 0, rfl, .inr ⟨rfl, n, h1, h2⟩⟩
theorem it_eq2 (y x : It) : decide (y = x) = (decide (y.1 = x.1) && decide (y.2 = x.2)) := by
  obtain ⟨y1, y2⟩ := y
  obtain ⟨x1, x2⟩ := x
  by_cases h1 : y1 = x1 <;> by_cases h2 : y2 = x2 <;> simp [h1, h2]
set_option maxRecDepth 100000 in
set_option maxHeartbeats 32000000 in
theorem more_walk {G : GD} {gv tv ov sv pv : Value} {tf : Nat → Nat → Value} {rv : Nat → Value} {w : World} {Bt : Nat} (h : GrAt w gv G tv ov sv pv tf rv) (hpz : ∀ n c, pv = .slice none n c → c = 0) (p : PD) (ra : Option Addr) (rc : Nat)
    (hp : IntsAt w (.slice ra p.rs.length rc) p.rs) (hpc : p.rs.length ≤ rc) (ht : Tab Bt w) (hBt : Bt ≤ w.heap.size) :
    Calls Tryd.prog 8 #[gv, .agg #[.string p.lab, .int .i64 p.sort, .slice ra p.rs.length rc, .int .i64 p.cls]] w fun e w' => e = .returned (.bool true) ∧ Below w.heap.size w w' := by
  have HG := hid h
  have HP := hid hp
  have HT := hid ht
  have HPZ := hid hpz
  have hgv := h.eq
  subst hgv
  obtain ⟨to_, tc, rfl, htn, _⟩ := h.terms
  obtain ⟨pa, pc, rfl, hpn, hpx⟩ := h.prods
  have HPX := hid hpx
  clear hpx
  obtain ⟨oa, oc, rfl, _, _⟩ := h.over
  obtain ⟨sa, sc, rfl, _, _⟩ := h.sorts
  obtain ⟨ns, hns⟩ : ∃ ns, G.sorts.length = ns := ⟨_, rfl⟩
  obtain ⟨no, hno⟩ : ∃ no, G.over.length = no := ⟨_, rfl⟩
  obtain ⟨nt, hnt⟩ : ∃ nt, G.terms.length = nt := ⟨_, rfl⟩
  obtain ⟨np, hnp⟩ : ∃ np, G.prods.length = np := ⟨_, rfl⟩
  obtain ⟨rl, hrl⟩ : ∃ rl, p.rs.length = rl := ⟨_, rfl⟩
  have HNT := hid hnt
  have HNP := hid hnp
  have HRL := hid hrl
  rw [hnt, hnp, hns, hno] at HG ⊢
  rw [hrl] at HP hpc ⊢
  rw [hnp] at HPZ
  obtain ⟨W0, e0⟩ : ∃ W0, w.alloc (.cells #[.slice to_ nt tc, .slice oa no oc, .slice sa ns sc, .slice pa np pc, .int .i64 G.start] 27) = W0 := ⟨_, rfl⟩
  have hb0 : Below w.heap.size w W0 := by rw [← e0]; exact (Below.refl _ _).alloc (Nat.le_refl _) _
  have n0 : W0.heap[w.heap.size]? = some (.cells #[.slice to_ nt tc, .slice oa no oc, .slice sa ns sc, .slice pa np pc, .int .i64 G.start] 27 (0, 0)) := by rw [← e0]; exact new_block _ _
  obtain ⟨W1, e1⟩ : ∃ W1, W0.alloc (.cells #[.string p.lab, .int .i64 p.sort, .slice ra rl rc, .int .i64 p.cls] 64) = W1 := ⟨_, rfl⟩
  have hb1 : Below W0.heap.size W0 W1 := by rw [← e1]; exact (Below.refl _ _).alloc (Nat.le_refl _) _
  have HN1 := hid ((hb1.block _ (Array.getElem?_eq_some_iff.1 n0).1).trans n0)
  have HQ1 := hid (show W1.heap[W0.heap.size]? = some (.cells #[.string p.lab, .int .i64 p.sort, .slice ra rl rc, .int .i64 p.cls] 64 (0, 0)) from by rw [← e1]; exact new_block _ _)
  have HB1 := hid (hb0.trans (hb1.mono hb0.size))
  have HS0 := hid hb0.size
  have HLT := hid (show W0.heap.size = w.heap.size + 1 by rw [← e0]; simp)
  have KW := hid (works_any W1 (ht.on (HB1.out.mono hBt)) (Nat.le_trans hBt HB1.out.size))
  clear h hp ht hpz hb0 n0 hb1 hnt hnp hrl hns hno
  go_enter Tryd.func8, Tryd.ntmps8
  go_wp2_with fail
  refine KW.out.mono ?_
  rintro e w2 ⟨rfl, hb2⟩
  have HB2 := hid (HB1.out.trans (hb2.mono HB1.out.size))
  have HN2 := hid ((hb2.block _ (Array.getElem?_eq_some_iff.1 HN1.out).1).trans HN1.out)
  have HQ2 := hid ((hb2.block _ (Array.getElem?_eq_some_iff.1 HQ1.out).1).trans HQ1.out)
  have c0 : w2.cell? ⟨w.heap.size, 0, none⟩ = some (.slice to_ nt tc) := Lib.cell_of_heap HN2.out 0
  have c1 : w2.cell? ⟨w.heap.size, 1, none⟩ = some (.slice oa no oc) := Lib.cell_of_heap HN2.out 1
  have c2 : w2.cell? ⟨w.heap.size, 2, none⟩ = some (.slice sa ns sc) := Lib.cell_of_heap HN2.out 2
  have c3 : w2.cell? ⟨w.heap.size, 3, none⟩ = some (.slice pa np pc) := Lib.cell_of_heap HN2.out 3
  have c4 : w2.cell? ⟨w.heap.size, 4, none⟩ = some (.int .i64 G.start) := Lib.cell_of_heap HN2.out 4
  have KF := hid (Little_any (show Gram w2 _ G from ⟨_, _, _, _, _, _, HG.out.mono HB2.out⟩))
  clear hb2 KW e1 e0
  go_wp2_with fail
  refine KF.out.mono ?_
  rintro e w3 ⟨fw, rfl, hb3⟩
  have HB3 := hid (HB2.out.trans (hb3.mono HB2.out.size))
  have HN3 := hid ((hb3.block _ (Array.getElem?_eq_some_iff.1 HN2.out).1).trans HN2.out)
  have HQ3 := hid ((hb3.block _ (Array.getElem?_eq_some_iff.1 HQ2.out).1).trans HQ2.out)
  clear hb3 KF c0 c1 c2 c3 c4
  have c0 : w3.cell? ⟨w.heap.size, 0, none⟩ = some (.slice to_ nt tc) := Lib.cell_of_heap HN3.out 0
  have c1 : w3.cell? ⟨w.heap.size, 1, none⟩ = some (.slice oa no oc) := Lib.cell_of_heap HN3.out 1
  have c2 : w3.cell? ⟨w.heap.size, 2, none⟩ = some (.slice sa ns sc) := Lib.cell_of_heap HN3.out 2
  have c3 : w3.cell? ⟨w.heap.size, 3, none⟩ = some (.slice pa np pc) := Lib.cell_of_heap HN3.out 3
  have c4 : w3.cell? ⟨w.heap.size, 4, none⟩ = some (.int .i64 G.start) := Lib.cell_of_heap HN3.out 4
  have g0 : w3.cell? ⟨W0.heap.size, 0, none⟩ = some (.string p.lab) := Lib.cell_of_heap HQ3.out 0
  have g1 : w3.cell? ⟨W0.heap.size, 1, none⟩ = some (.int .i64 p.sort) := Lib.cell_of_heap HQ3.out 1
  have g2 : w3.cell? ⟨W0.heap.size, 2, none⟩ = some (.slice ra rl rc) := Lib.cell_of_heap HQ3.out 2
  have g3 : w3.cell? ⟨W0.heap.size, 3, none⟩ = some (.int .i64 p.cls) := Lib.cell_of_heap HQ3.out 3
  cases fw
  · go_wp2_with fail
    go_ret
    exact ⟨rfl, HB3.out⟩
  by_cases hr5 : ¬ rl ≤ 5
  · have r5 : (5 : Int) < (rl : Int) := by omega
    go_wp2_with fail
    go_ret
    exact ⟨rfl, HB3.out⟩
  have r5 : ¬ (5 : Int) < (rl : Int) := by omega
  by_cases hp8 : ¬ np ≤ 8
  · have r8 : (8 : Int) < (np : Int) := by omega
    go_wp2_with fail
    go_ret
    exact ⟨rfl, HB3.out⟩
  have r8 : ¬ (8 : Int) < (np : Int) := by omega
  have _t := True.intro
  obtain ⟨x0, ex0⟩ : ∃ x0, w3.alloc (.cells #[.slice none 0 0, .slice none 0 0, .slice none 0 0, .slice none 0 0, .int .i64 0] 27) = x0 := ⟨_, rfl⟩
  have nx0 : x0.heap[w3.heap.size]? = some (.cells #[.slice none 0 0, .slice none 0 0, .slice none 0 0, .slice none 0 0, .int .i64 0] 27 (0, 0)) := by rw [← ex0]; exact new_block _ _
  have bx0 : Below w3.heap.size w3 x0 := by rw [← ex0]; exact (Below.refl _ _).alloc (Nat.le_refl _) _
  have dx0 : x0.cell? ⟨w3.heap.size, 0, none⟩ = some (.slice none 0 0) := Lib.cell_of_heap nx0 0
  have fx0 := Lib.frozen_of_heap nx0 0
  obtain ⟨x1, ex1⟩ : ∃ y, x0.setCell ⟨w3.heap.size, 0, none⟩ (.slice to_ nt tc) = y := ⟨_, rfl⟩
  have nx1 : x1.heap[w3.heap.size]? = some (.cells #[.slice to_ nt tc, .slice none 0 0, .slice none 0 0, .slice none 0 0, .int .i64 0] 27 (0, 0)) := by rw [← ex1]; exact heap_setCell_same _ _ 0 _ 27 _ nx0
  have bx1 : Below w3.heap.size w3 x1 := by rw [← ex1]; exact bx0.setCell (Nat.le_refl _) _
  have dx1 : x1.cell? ⟨w3.heap.size, 1, none⟩ = some (.slice none 0 0) := Lib.cell_of_heap nx1 1
  have fx1 := Lib.frozen_of_heap nx1 1
  obtain ⟨x2, ex2⟩ : ∃ y, x1.setCell ⟨w3.heap.size, 1, none⟩ (.slice oa no oc) = y := ⟨_, rfl⟩
  have nx2 : x2.heap[w3.heap.size]? = some (.cells #[.slice to_ nt tc, .slice oa no oc, .slice none 0 0, .slice none 0 0, .int .i64 0] 27 (0, 0)) := by rw [← ex2]; exact heap_setCell_same _ _ 1 _ 27 _ nx1
  have bx2 : Below w3.heap.size w3 x2 := by rw [← ex2]; exact bx1.setCell (Nat.le_refl _) _
  have dx2 : x2.cell? ⟨w3.heap.size, 2, none⟩ = some (.slice none 0 0) := Lib.cell_of_heap nx2 2
  have fx2 := Lib.frozen_of_heap nx2 2
  obtain ⟨x3, ex3⟩ : ∃ y, x2.setCell ⟨w3.heap.size, 2, none⟩ (.slice sa ns sc) = y := ⟨_, rfl⟩
  have nx3 : x3.heap[w3.heap.size]? = some (.cells #[.slice to_ nt tc, .slice oa no oc, .slice sa ns sc, .slice none 0 0, .int .i64 0] 27 (0, 0)) := by rw [← ex3]; exact heap_setCell_same _ _ 2 _ 27 _ nx2
  have bx3 : Below w3.heap.size w3 x3 := by rw [← ex3]; exact bx2.setCell (Nat.le_refl _) _
  have dx3 : x3.cell? ⟨w3.heap.size, 3, none⟩ = some (.slice none 0 0) := Lib.cell_of_heap nx3 3
  have fx3 := Lib.frozen_of_heap nx3 3
  obtain ⟨x4, ex4⟩ : ∃ y, x3.setCell ⟨w3.heap.size, 3, none⟩ (.slice pa np pc) = y := ⟨_, rfl⟩
  have nx4 : x4.heap[w3.heap.size]? = some (.cells #[.slice to_ nt tc, .slice oa no oc, .slice sa ns sc, .slice pa np pc, .int .i64 0] 27 (0, 0)) := by rw [← ex4]; exact heap_setCell_same _ _ 3 _ 27 _ nx3
  have bx4 : Below w3.heap.size w3 x4 := by rw [← ex4]; exact bx3.setCell (Nat.le_refl _) _
  have dx4 : x4.cell? ⟨w3.heap.size, 4, none⟩ = some (.int .i64 0) := Lib.cell_of_heap nx4 4
  have fx4 := Lib.frozen_of_heap nx4 4
  obtain ⟨x5, ex5⟩ : ∃ y, x4.setCell ⟨w3.heap.size, 4, none⟩ (.int .i64 G.start) = y := ⟨_, rfl⟩
  have nx5 : x5.heap[w3.heap.size]? = some (.cells #[.slice to_ nt tc, .slice oa no oc, .slice sa ns sc, .slice pa np pc, .int .i64 G.start] 27 (0, 0)) := by rw [← ex5]; exact heap_setCell_same _ _ 4 _ 27 _ nx4
  have bx5 : Below w3.heap.size w3 x5 := by rw [← ex5]; exact bx4.setCell (Nat.le_refl _) _
  have nq5 := (bx5.block _ (Array.getElem?_eq_some_iff.1 HQ3.out).1).trans HQ3.out
  have dq := Lib.cell_of_heap nq5 0
  have fq := Lib.frozen_of_heap nq5 0
  obtain ⟨x6, ex6⟩ : ∃ y, x5.setCell ⟨W0.heap.size, 0, none⟩ (.string ⟨#[122, 122]⟩) = y := ⟨_, rfl⟩
  have HQ6 := hid (show x6.heap[W0.heap.size]? = some (.cells #[.string ⟨#[122, 122]⟩, .int .i64 p.sort, .slice ra rl rc, .int .i64 p.cls] 64 (0, 0)) from by rw [← ex6]; exact heap_setCell_same _ _ 0 _ 64 _ nq5)
  have HS3 := hid HB3.out.size
  have HSQ := hid (Array.getElem?_eq_some_iff.1 HQ3.out).1
  have HBX := hid (show Below w.heap.size w x6 from by rw [← ex6]; exact (HB3.out.trans (bx5.mono HB3.out.size)).setCell HS0.out _)
  have hdif : w3.heap.size ≠ W0.heap.size := by have := HSQ.out; omega
  have t1 : x6.heap[w3.heap.size]? = some (.cells #[.slice to_ nt tc, .slice oa no oc, .slice sa ns sc, .slice pa np pc, .int .i64 G.start] 27 (0, 0)) := by
    rw [← ex6, heap_setCell_other _ _ _ _ hdif]
    exact nx5
  have t2 : x6.heap[w.heap.size]? = some (.cells #[.slice to_ nt tc, .slice oa no oc, .slice sa ns sc, .slice pa np pc, .int .i64 G.start] 27 (0, 0)) := by
    have hlt0 : w.heap.size < W0.heap.size := by rw [HLT.out]; omega
    rw [← ex6, heap_setCell_other _ _ _ _ (by show w.heap.size ≠ W0.heap.size; omega)]
    exact (bx5.block _ (Array.getElem?_eq_some_iff.1 HN3.out).1).trans HN3.out
  have g0 := Lib.cell_of_heap HQ6.out 0
  have g1 := Lib.cell_of_heap HQ6.out 1
  have g2 := Lib.cell_of_heap HQ6.out 2
  have g3 := Lib.cell_of_heap HQ6.out 3
  have d3 := Lib.cell_of_heap t2 3
  have x6c := Lib.cell_of_heap t1 3
  have u3 := Lib.frozen_of_heap t1 3
  have ht1 := (Array.getElem?_eq_some_iff.1 t1).1
  have HN := hid (show ∀ W', Below w.heap.size w W' → ∀ ad, pa = some ad → ∀ j u, (pcells G.prods rv)[j]? = some u → W'.cell? (ad.add j) = some u from fun W' hb' ad e => by
    subst e
    exact prods_news (n := np) (c := pc) (HG.out.prods.mono hb'))
  have HPL := hid (show (pcells G.prods rv).length = np * 4 by rw [pcells_length, HNP.out])
  have HONE : Hid (∀ u ∈ pcells G.prods rv, u.oneCell' = true) := pcells_one HG.out.rights
  have HNA : Hid (pa = none → np = 0 ∧ pc = 0) := fun e => by
    have h0 : np = 0 := Nat.eq_zero_of_not_pos fun hp0 => by
      obtain ⟨b, off, e2, _⟩ := HPX.out (by rw [HNP.out]; exact hp0)
      rw [e] at e2
      cases e2
    exact ⟨h0, HPZ.out np pc (by rw [e])⟩
  go_wp2_with fail
  clear dx0 fx0 ex0 nx0 bx0 dx1 fx1 ex1 nx1 bx1 dx2 fx2 ex2 nx2 bx2 dx3 fx3 ex3 nx3 bx3 dx4 fx4 ex4 nx4 bx4 ex5 nx5 bx5 dq fq ex6 nq5 c0 c1 c2 c3 c4
  have nh1 : w3.heap.size ≠ w.heap.size := by have := HSQ.out; have := HLT.out; omega
  have nh2 : w3.heap.size ≠ W0.heap.size := hdif
  go_cut [] (fun wx => ∃ gb cap, wx.heap[w.heap.size]? = some (.cells #[.slice to_ nt tc, .slice oa no oc, .slice sa ns sc, .slice pa np pc, .int .i64 G.start] 27) ∧ wx.heap[w3.heap.size]? = some (.cells #[.slice to_ nt tc, .slice oa no oc, .slice sa ns sc, .slice (some ⟨gb, 0, none⟩) (np + 1) cap, .int .i64 G.start] 27) ∧
    wx.ownsRow x6.heap.size 64 4 (.slice (some ⟨gb, 0, none⟩) (np + 1) cap) (np + 1) (pcells G.prods rv ++ [.string ⟨#[122, 122]⟩, .int .i64 p.sort, .slice ra rl rc, .int .i64 p.cls]) ∧ Below w.heap.size w wx)
  case first =>
    go_region_held3 (fun w' => w'.cell? ⟨w.heap.size, 3, none⟩ = some (.slice pa np pc) ∧ w'.cell? ⟨W0.heap.size, 0, none⟩ = some (.string ⟨#[122, 122]⟩) ∧ w'.cell? ⟨W0.heap.size, 1, none⟩ = some (.int .i64 p.sort) ∧ w'.cell? ⟨W0.heap.size, 2, none⟩ = some (.slice ra rl rc) ∧ w'.cell? ⟨W0.heap.size, 3, none⟩ = some (.int .i64 p.cls))
      (first
        | go_keep
        | exact ⟨cell_below HB6.out d3, cell_below HB6.out g0, cell_below HB6.out g1, cell_below HB6.out g2, cell_below HB6.out g3⟩
        | exact ⟨cell_below HB5.out d3, cell_below HB5.out g0, cell_below HB5.out g1, cell_below HB5.out g2, cell_below HB5.out g3⟩
        | exact ⟨cell_alloc (cell_below HB5.out d3), cell_alloc (cell_below HB5.out g0), cell_alloc (cell_below HB5.out g1), cell_alloc (cell_below HB5.out g2), cell_alloc (cell_below HB5.out g3)⟩
        | exact ⟨cell_far (cell_below HB6.out d3) nh1, cell_far (cell_below HB6.out g0) nh2, cell_far (cell_below HB6.out g1) nh2, cell_far (cell_below HB6.out g2) nh2, cell_far (cell_below HB6.out g3) nh2⟩)
      ((rw [if_pos (by rfl)]; first
        | (refine app_prods (.tmp 41) (.tmp 43) rfl x6.heap.size (.slice (some ⟨_, 0, none⟩) 0 0) 0 [] rfl (⟨by simp, .inr ⟨_, 0, #[], rfl, by simp, by (first | exact new_block _ _ | exact heap_al (new_block _ _) | exact new_block2 _ _ _), Nat.zero_le _, by decide, rfl, by simp⟩⟩) pa np pc (pcells G.prods rv) rfl HPL.out (HN.out _ (by repeat' (first | exact HBX.out | refine Below.drew ?_ | refine below_al2 ?_ _))) HNA.out HONE.out (by omega) (by first | (simp; done) | (simp; omega)) ?_
           intro v5 w5 own5 hb5 far5
           have HB5 := hid (Below.trans (a := x6) (by repeat' (first | exact Below.refl _ _ | refine Below.drew ?_ | refine below_al2 ?_ _)) hb5)
           clear hb5)
        | (refine app_prods (.tmp 44) (.tmp 46) rfl x6.heap.size v5 (0 + np) ([] ++ pcells G.prods rv) rfl (by first | exact own5 | exact own5.alloc _) (some ⟨_, 0, none⟩) 1 1 [.string ⟨#[122, 122]⟩, .int .i64 p.sort, .slice ra rl rc, .int .i64 p.cls] rfl rfl (fun ad e j u hj => by
             cases e
             first
               | exact four_at hj (new_block _ _)
               | exact four_at hj (far5 _ _ (new_block _ _) (by simp [Value.ownBlock]))
               | exact four_at hj (far5 _ _ (new_block2 _ _ _) (by simp [Value.ownBlock]))
               | exact four_at hj (far5 _ _ (heap_al (new_block _ _)) (by simp [Value.ownBlock]))) (fun h => (by cases h)) (by simp [Value.oneCell']) (by omega) (by have := HB5.out.size; simp; omega) ?_
           intro v6 w6 own6 hb6 _
           have HB6 := hid (HB5.out.trans (Below.trans (by first | exact Below.refl _ _ | exact (Below.refl _ _).alloc HB5.out.size _ | exact ((Below.refl _ _).alloc HB5.out.size _).drew) hb6))
           obtain ⟨gb, cap, rfl⟩ := ownsRow_form own6 (by omega)
           have s1 := cell_below HB6.out x6c
           have s2 : w6.frozen? ⟨w3.heap.size, 3, none⟩ = false := (Below.frozen HB6.out (p := ⟨w3.heap.size, 3, none⟩) ht1).trans u3
           have OWN6 := hid own6
           clear own6
           clear hb6)))
    all_goals
      go_wp2_with fail
      go_meet
      refine ⟨gb, cap, (heap_setCell_other _ _ _ _ (by show w.heap.size ≠ w3.heap.size; exact fun e => nh1 e.symm)).trans (heap_keep HB6.out t2), ?_, ?_, ?_⟩
      · have := block_setCell (i := 3) (heap_keep HB6.out t1) (.slice (some ⟨gb, 0, none⟩) (np + 1) cap)
        simpa using this
      · have hlt := OWN6.out.lt gb rfl
        have := ownsRow_setCell_other (by simpa using OWN6.out) (a := ⟨w3.heap.size, 3, none⟩) (by show some gb ≠ some w3.heap.size; simp; omega) (.slice (some ⟨gb, 0, none⟩) (np + 1) cap)
        exact this
      · exact Below.setCell (p := ⟨w3.heap.size, 3, none⟩) (HBX.out.trans (HB6.out.mono HBX.out.size)) (by have := HS3.out; show w.heap.size ≤ w3.heap.size; omega) _
  case rest =>
    obtain ⟨gb, cap, hBg, hBh, own, hBy⟩ := hcut
    clear t1 t2 d3 g0 g1 g2 g3 x6c u3 ht1
    rename_i wc
    have HBC := hid hBy
    have HBG := hid hBg
    have HBH := hid hBh
    have hlg : w.heap.size < wc.heap.size := (Array.getElem?_eq_some_iff.1 hBg).1
    have hlh : w3.heap.size < wc.heap.size := (Array.getElem?_eq_some_iff.1 hBh).1
    have hGM := more_at (p := ⟨⟨#[122, 122]⟩, p.sort, p.rs, p.cls⟩) HG.out HBC.out (base := x6.heap.size) (cap := cap) (g := gb) (rp := .slice ra rl rc) (by rw [HNP.out]; exact own) (by rw [HNP.out]; omega) HP.out (fun a n c e => by cases e; exact hpc)
    rw [HNP.out] at hGM
    obtain ⟨H, hH⟩ : ∃ H, moreG G ⟨⟨#[122, 122]⟩, p.sort, p.rs, p.cls⟩ = H := ⟨_, rfl⟩
    have HMO := hid (show X14.More G H by rw [← hH]; exact more_moreG _ _)
    have HGH := hid (show Gram wc (.agg #[.slice to_ nt tc, .slice oa no oc, .slice sa ns sc, .slice (some ⟨gb, 0, none⟩) (np + 1) cap, .int .i64 G.start]) H from by rw [← hH]; exact ⟨_, _, _, _, _, _, hGM⟩)
    clear hGM own hBy hH
    have c0 : wc.cell? ⟨w.heap.size, 0, none⟩ = some (.slice to_ nt tc) := Lib.cell_of_heap HBG.out 0
    have c1 : wc.cell? ⟨w.heap.size, 1, none⟩ = some (.slice oa no oc) := Lib.cell_of_heap HBG.out 1
    have c2 : wc.cell? ⟨w.heap.size, 2, none⟩ = some (.slice sa ns sc) := Lib.cell_of_heap HBG.out 2
    have c3 : wc.cell? ⟨w.heap.size, 3, none⟩ = some (.slice pa np pc) := Lib.cell_of_heap HBG.out 3
    have c4 : wc.cell? ⟨w.heap.size, 4, none⟩ = some (.int .i64 G.start) := Lib.cell_of_heap HBG.out 4
    have KB := hid (Build_any (show Gram wc (.agg #[.slice to_ nt tc, .slice oa no oc, .slice sa ns sc, .slice pa np pc, .int .i64 G.start]) G from ⟨_, _, _, _, _, _, HG.out.mono HBC.out⟩) (HT.out.on (HBC.out.mono hBt)) (Nat.le_trans hBt HBC.out.size))
    clear hBg hBh
    go_wp2_with fail
    refine KB.out.mono ?_
    rintro e w4 ⟨hb4, hcase⟩
    have HB4 := hid (HBC.out.trans (hb4.mono HBC.out.size))
    have HH4 := hid ((hb4.block _ hlh).trans HBH.out)
    have hGH4 := HGH.out.below hb4
    have hl4 := hb4.size
    clear hb4 KB c0 c1 c2 c3 c4
    obtain ⟨ko, kn, kc, no_, nn, nc, er, rfl, hc1⟩ := build_case hcase
    have HC1 := hid hc1
    clear hcase hc1
    obtain ⟨wA, eA⟩ : ∃ wA, w4.alloc (.cells #[.slice ko kn kc, .slice no_ nn nc] 49) = wA := ⟨_, rfl⟩
    have hbA : Below w4.heap.size w4 wA := by rw [← eA]; exact (Below.refl _ _).alloc (Nat.le_refl _) _
    have nA : wA.heap[w4.heap.size]? = some (.cells #[.slice ko kn kc, .slice no_ nn nc] 49 (0, 0)) := by rw [← eA]; exact new_block _ _
    have HAA := hid nA
    have HbA := hid hbA
    have HBA := hid (HB4.out.trans (hbA.mono HB4.out.size))
    have HHA := hid ((hbA.block _ (by omega)).trans HH4.out)
    have hlA : w4.heap.size < wA.heap.size := (Array.getElem?_eq_some_iff.1 nA).1
    have c0 : wA.cell? ⟨w3.heap.size, 0, none⟩ = some (.slice to_ nt tc) := Lib.cell_of_heap HHA.out 0
    have c1 : wA.cell? ⟨w3.heap.size, 1, none⟩ = some (.slice oa no oc) := Lib.cell_of_heap HHA.out 1
    have c2 : wA.cell? ⟨w3.heap.size, 2, none⟩ = some (.slice sa ns sc) := Lib.cell_of_heap HHA.out 2
    have c3 : wA.cell? ⟨w3.heap.size, 3, none⟩ = some (.slice (some ⟨gb, 0, none⟩) (np + 1) cap) := Lib.cell_of_heap HHA.out 3
    have c4 : wA.cell? ⟨w3.heap.size, 4, none⟩ = some (.int .i64 G.start) := Lib.cell_of_heap HHA.out 4
    have KB := hid (Build_any (hGH4.below hbA) (HT.out.on (HBA.out.mono hBt)) (Nat.le_trans hBt HBA.out.size))
    clear nA hbA hGH4
    go_wp2_with fail
    refine KB.out.mono ?_
    rintro e w5 ⟨hb5, hcase⟩
    have HB5 := hid (HBA.out.trans (hb5.mono HBA.out.size))
    have HA5 := hid ((hb5.block _ hlA).trans HAA.out)
    have Hb5 := hid (HbA.out.trans (hb5.mono HbA.out.size))
    have hl5 := hb5.size
    clear hb5 KB c0 c1 c2 c3 c4 eA
    obtain ⟨lo, ln, lc, mo, mn, mc, es, rfl, hc2⟩ := build_case hcase
    have HC2 := hid hc2
    clear hcase hc2
    obtain ⟨wB, eB⟩ : ∃ wB, w5.alloc (.cells #[.slice lo ln lc, .slice mo mn mc] 49) = wB := ⟨_, rfl⟩
    have hbB : Below w5.heap.size w5 wB := by rw [← eB]; exact (Below.refl _ _).alloc (Nat.le_refl _) _
    have nB : wB.heap[w5.heap.size]? = some (.cells #[.slice lo ln lc, .slice mo mn mc] 49 (0, 0)) := by rw [← eB]; exact new_block _ _
    have HBB := hid nB
    have HbB := hid hbB
    have HB6 := hid (HB5.out.trans (hbB.mono HB5.out.size))
    have HAB := hid ((hbB.block _ (by omega)).trans HA5.out)
    have HW4 := hid (Hb5.out.trans (hbB.mono Hb5.out.size))
    clear nB hbB
    rcases HC1.out with (rfl | rfl) | ⟨rfl, n, hok1, hav1⟩
    · go_wp2_with fail
      go_ret
      exact ⟨rfl, HB6.out⟩
    · go_wp2_with fail
      go_ret
      exact ⟨rfl, HB6.out⟩
    rcases HC2.out with (rfl | rfl) | ⟨rfl, m, hok2, hav2⟩
    · go_wp2_with fail
      go_ret
      exact ⟨rfl, HB6.out⟩
    · go_wp2_with fail
      go_ret
      exact ⟨rfl, HB6.out⟩
    have HFM := hid (show ∀ (q : Nat) k, (iterB G n).ker[q]? = some k → foundU (iterB H m).ker k (iterB H m).ker.length = true from fun q k hq => found_more HMO.out hok1 hok2 hq)
    have HAV1 := hid (hav1.below HW4.out)
    have HAV2 := hid (hav2.below HbB.out)
    clear hav1 hav2 hok1 hok2
    clear HC1 HC2
    generalize (iterB G n).ker = KA at *
    generalize (iterB H m).ker = KK at *
    obtain ⟨kv, nv, ekv, hka, _⟩ := HAV1.out
    cases ekv
    obtain ⟨_, _, elk, hka63⟩ := hka.len
    cases elk
    obtain ⟨kv, nv, ekv, hkb, _⟩ := HAV2.out
    cases ekv
    obtain ⟨_, _, elk, hkb63⟩ := hkb.len
    cases elk
    have HKA := hid hka
    have HKB := hid hkb
    obtain ⟨na, hna⟩ : ∃ na, KA.length = na := ⟨_, rfl⟩
    obtain ⟨nb, hnb⟩ : ∃ nb, KK.length = nb := ⟨_, rfl⟩
    have HNA2 := hid hna
    have HNB2 := hid hnb
    rw [hna] at HKA HAB hka63 ⊢
    rw [hnb] at HKB HBB hkb63 eB ⊢
    clear hna hnb hka hkb HAV1 HAV2
    go_wp2_with fail
    clear eB
    go_loopw [12, 13, 14, 15, 16, 17, 18] (fun t12 t13 t14 t15 t16 t17 t18 wz => ∃ i : Nat, i ≤ na ∧ t12 = .int .i64 (i : Int) ∧ Hid (Below wB.heap.size wB wz)) (fun t12 _ _ _ _ _ _ _ => na - (RowKit.intOf t12).toNat)
    case atStart => exact ⟨0, Nat.zero_le _, rfl, hid (Below.refl _ _)⟩
    case round =>
      obtain ⟨i, hin, rfl, HZ⟩ := hrel
      have a0 : wr.cell? ⟨w4.heap.size, 0, none⟩ = some (.slice ko na kc) := Lib.cell_of_heap ((HZ.out.block _ (Array.getElem?_eq_some_iff.1 HAB.out).1).trans HAB.out) 0
      by_cases hlt : i < na
      · have i1 : (i : Int) < (na : Int) := by omega
        have i0 : (0 : Int) ≤ (i : Int) := by omega
        obtain ⟨kb, kf, u, rfl, u1, u2⟩ := HKA.out.at_ (k := i) hlt
        obtain ⟨uo, uc, hul, huX⟩ := u2.len
        subst hul
        obtain ⟨X, hX⟩ : ∃ X, KA[i]? = some X := ⟨_, List.getElem?_eq_getElem (by rw [HNA2.out]; exact hlt)⟩
        have hXd := X14.getD_get (d := ([] : List It)) hX
        rw [hXd] at u1 u2 huX
        have HU1 := hid u1
        have HU2 := hid u2
        have HFX := hid (HFM.out i X hX)
        obtain ⟨xl, hxl⟩ : ∃ xl, X.length = xl := ⟨_, rfl⟩
        have HXL := hid hxl
        rw [hxl] at HU1 HU2 huX
        clear u1 u2 hX hXd hxl
        go_wp2_with fail
        go_loopw [13, 14, 15, 16, 17, 18] (fun t13 t14 t15 t16 t17 t18 wz => ∃ k : Nat, k ≤ nb ∧ t14 = .int .i64 (k : Int) ∧ (∃ fb, t13 = .bool fb ∧ Hid (fb = foundU KK X k)) ∧ Hid (Below wB.heap.size wB wz)) (fun _ t14 _ _ _ _ _ => nb - (RowKit.intOf t14).toNat)
        case atStart => exact ⟨0, Nat.zero_le _, rfl, ⟨false, rfl, hid rfl⟩, HZ⟩
        case round =>
          clear HZ a0
          obtain ⟨k, hkn, rfl, ⟨fb, rfl, HFB⟩, HZ⟩ := hrel
          have b0 : wr.cell? ⟨w5.heap.size, 0, none⟩ = some (.slice lo nb lc) := Lib.cell_of_heap ((HZ.out.block _ (Array.getElem?_eq_some_iff.1 HBB.out).1).trans HBB.out) 0
          by_cases hlk : k < nb
          · have k1 : (k : Int) < (nb : Int) := by omega
            have k0 : (0 : Int) ≤ (k : Int) := by omega
            obtain ⟨lb, lf, v, rfl, v1, v2⟩ := HKB.out.at_ (k := k) hlk
            obtain ⟨vo, vc, hul, hvX⟩ := v2.len
            subst hul
            obtain ⟨Y, hY⟩ : ∃ Y, KK.getD k [] = Y := ⟨_, rfl⟩
            rw [hY] at v1 v2 hvX
            have HV1 := hid v1
            have HV2 := hid v2
            obtain ⟨yl, hyl⟩ : ∃ yl, Y.length = yl := ⟨_, rfl⟩
            have HYL := hid hyl
            rw [hyl] at HV1 HV2 hvX
            have HF2 := hid (show foundU KK X (k + 1) = (foundU KK X k || allU X Y X.length) from by rw [foundU_more, hY])
            clear v1 v2 hY hyl
            go_wp2_with fail
            go_loopw [15, 16, 17, 18] (fun t15 t16 t17 t18 wz => ∃ j : Nat, j ≤ xl ∧ t16 = .int .i64 (j : Int) ∧ (∃ ab, t15 = .bool ab ∧ Hid (ab = allU X Y j)) ∧ Hid (Below wB.heap.size wB wz)) (fun _ t16 _ _ _ => xl - (RowKit.intOf t16).toNat)
            case atStart => exact ⟨0, Nat.zero_le _, rfl, ⟨true, rfl, hid rfl⟩, HZ⟩
            case round =>
              clear HZ b0
              obtain ⟨j, hjn, rfl, ⟨ab, rfl, HABL⟩, HZ⟩ := hrel
              have a0 : wr.cell? ⟨w4.heap.size, 0, none⟩ = some (.slice (some ⟨kb, kf, none⟩) na kc) := Lib.cell_of_heap ((HZ.out.block _ (Array.getElem?_eq_some_iff.1 HAB.out).1).trans HAB.out) 0
              have a1 := cell_below HZ.out HU1.out
              by_cases hlj : j < xl
              · have j1 : (j : Int) < (xl : Int) := by omega
                have j0 : (0 : Int) ≤ (j : Int) := by omega
                obtain ⟨x, hx⟩ : ∃ x, X[j]? = some x := ⟨_, List.getElem?_eq_getElem (by rw [HXL.out]; exact hlj)⟩
                have hxd := X14.getD_get (d := ((0, 0) : It)) hx
                obtain ⟨xb, xf, eu, x0_, x1_⟩ := HU2.out.at_ hx
                subst eu
                have HX0 := hid x0_
                have HX1 := hid x1_
                have HA2 := hid (show allU X Y (j + 1) = (allU X Y j && inU Y x Y.length) from by rw [allU_more, hxd])
                clear x0_ x1_ hx hxd
                go_wp2_with fail
                go_loopw [17, 18] (fun t17 t18 wz => ∃ q : Nat, q ≤ yl ∧ t18 = .int .i64 (q : Int) ∧ (∃ ib, t17 = .bool ib ∧ Hid (ib = inU Y x q)) ∧ Hid (Below wB.heap.size wB wz)) (fun _ t18 _ => yl - (RowKit.intOf t18).toNat)
                case atStart => exact ⟨0, Nat.zero_le _, rfl, ⟨false, rfl, hid rfl⟩, HZ⟩
                case round =>
                  clear HZ a0 a1
                  obtain ⟨q, hqn, rfl, ⟨ib, rfl, HIB⟩, HZ⟩ := hrel
                  have b0 : wr.cell? ⟨w5.heap.size, 0, none⟩ = some (.slice (some ⟨lb, lf, none⟩) nb lc) := Lib.cell_of_heap ((HZ.out.block _ (Array.getElem?_eq_some_iff.1 HBB.out).1).trans HBB.out) 0
                  have b1 := cell_below HZ.out HV1.out
                  by_cases hlq : q < yl
                  · have q1 : (q : Int) < (yl : Int) := by omega
                    have q0 : (0 : Int) ≤ (q : Int) := by omega
                    obtain ⟨y, hy⟩ : ∃ y, Y[q]? = some y := ⟨_, List.getElem?_eq_getElem (by rw [HYL.out]; exact hlq)⟩
                    have hyd := X14.getD_get (d := ((0, 0) : It)) hy
                    obtain ⟨yb, yf, eu, y0_, y1_⟩ := HV2.out.at_ hy
                    subst eu
                    have HI2 := hid (show inU Y x (q + 1) = (inU Y x q || decide (y = x)) from by rw [inU_more, hyd])
                    have HS0 : Hid (∀ w', Below wr.heap.size wr w' → w'.cell? ⟨w5.heap.size, 0, none⟩ = some (.slice (some ⟨lb, lf, none⟩) nb lc)) := hid fun w' hC => cell_below hC b0
                    have HS1 : Hid (∀ w', Below wr.heap.size wr w' → w'.cell? ⟨lb, lf + k, none⟩ = some (.slice (some ⟨yb, yf, none⟩) yl vc)) := hid fun w' hC => cell_below hC b1
                    have HS2 : Hid (∀ w', Below wr.heap.size wr w' → w'.cell? ⟨yb, yf + q * 2, none⟩ = some (.int .i64 y.1)) := hid fun w' hC => cell_below (HZ.out.trans (hC.mono HZ.out.size)) y0_
                    have HS3 : Hid (∀ w', Below wr.heap.size wr w' → w'.cell? ⟨yb, yf + q * 2 + 1, none⟩ = some (.int .i64 y.2)) := hid fun w' hC => cell_below (HZ.out.trans (hC.mono HZ.out.size)) y1_
                    have HS4 : Hid (∀ w', Below wr.heap.size wr w' → w'.cell? ⟨w4.heap.size, 0, none⟩ = some (.slice (some ⟨kb, kf, none⟩) na kc)) := hid fun w' hC => by
                      have hh := HZ.out.trans (hC.mono HZ.out.size)
                      exact Lib.cell_of_heap ((hh.block _ (Array.getElem?_eq_some_iff.1 HAB.out).1).trans HAB.out) 0
                    have HS5 : Hid (∀ w', Below wr.heap.size wr w' → w'.cell? ⟨kb, kf + i, none⟩ = some (.slice (some ⟨xb, xf, none⟩) xl uc)) := hid fun w' hC => cell_below (HZ.out.trans (hC.mono HZ.out.size)) HU1.out
                    have HS6 : Hid (∀ w', Below wr.heap.size wr w' → w'.cell? ⟨xb, xf + j * 2, none⟩ = some (.int .i64 x.1)) := hid fun w' hC => cell_below (HZ.out.trans (hC.mono HZ.out.size)) HX0.out
                    have HS7 : Hid (∀ w', Below wr.heap.size wr w' → w'.cell? ⟨xb, xf + j * 2 + 1, none⟩ = some (.int .i64 x.2)) := hid fun w' hC => cell_below (HZ.out.trans (hC.mono HZ.out.size)) HX1.out
                    obtain ⟨be, hbe⟩ : ∃ be, (decide (y.1 = x.1) && decide (y.2 = x.2)) = be := ⟨_, rfl⟩
                    have hE : ∀ w', (Op.equalIn 10000 37 (.agg #[.int .i64 y.1, .int .i64 y.2]) (.agg #[.int .i64 x.1, .int .i64 x.2])).run Tryd.prog w' = .ok be w' := fun w' => by rw [← hbe]; exact eql37 _ _ _ _ w'
                    have HBE := hid (show decide (y = x) = be from by rw [← hbe]; exact (it_eq2 y x))
                    clear hbe hy hyd y0_ y1_
                    cases ib
                    · go_wp2_with fail
                      refine wp_region_below (by kernel_rfl) (by kernel_rfl) ?_
                      with_reducible refine BigFrame.wpQuiet_want (by kernel_rfl) (fun K hK => ?_)
                      apply Exists.intro
                      refine ⟨fun w' hC => ?_, hK _ ?_⟩
                      · unfold Oper.quietAt
                        go_simp
                        first | with_reducible rfl | done
                      clear hK K
                      try simp only [Act.put, List.setIfInBounds_toArray, List.set_cons_zero, List.set_cons_succ]
                      with_reducible refine BigFrame.wpQuiet_want (by kernel_rfl) (fun K hK => ?_)
                      apply Exists.intro
                      refine ⟨fun w' hC => ?_, hK _ ?_⟩
                      · unfold Oper.quietAt
                        go_simp
                        first | with_reducible rfl | done
                      clear hK K
                      try simp only [Act.put, List.setIfInBounds_toArray, List.set_cons_zero, List.set_cons_succ]
                      with_reducible refine BigFrame.wpQuiet_want (by kernel_rfl) (fun K hK => ?_)
                      apply Exists.intro
                      refine ⟨fun w' hC => ?_, hK _ ?_⟩
                      · unfold Oper.quietAt
                        go_simp
                        first | with_reducible rfl | done
                      clear hK K
                      try simp only [Act.put, List.setIfInBounds_toArray, List.set_cons_zero, List.set_cons_succ]
                      with_reducible refine BigFrame.wpQuiet_want (by kernel_rfl) (fun K hK => ?_)
                      apply Exists.intro
                      refine ⟨fun w' hC => ?_, hK _ ?_⟩
                      · have f0' := HS0.out w' hC
                        have f1' := HS1.out w' hC
                        have f2' := HS2.out w' hC
                        have f3' := HS3.out w' hC
                        have f4' := HS4.out w' hC
                        have f5' := HS5.out w' hC
                        have f6' := HS6.out w' hC
                        have f7' := HS7.out w' hC
                        unfold Oper.quietAt
                        go_simp
                        first | with_reducible rfl | done
                      clear hK K
                      try simp only [Act.put, List.setIfInBounds_toArray, List.set_cons_zero, List.set_cons_succ]
                      with_reducible refine BigFrame.wpQuiet_want (by kernel_rfl) (fun K hK => ?_)
                      apply Exists.intro
                      refine ⟨fun w' hC => ?_, hK _ ?_⟩
                      · unfold Oper.quietAt
                        go_simp
                        first | with_reducible rfl | done
                      clear hK K
                      try simp only [Act.put, List.setIfInBounds_toArray, List.set_cons_zero, List.set_cons_succ]
                      with_reducible refine BigFrame.wpQuiet_want (by kernel_rfl) (fun K hK => ?_)
                      apply Exists.intro
                      refine ⟨fun w' hC => ?_, hK _ ?_⟩
                      · unfold Oper.quietAt
                        go_simp
                        first | with_reducible rfl | done
                      clear hK K
                      try simp only [Act.put, List.setIfInBounds_toArray, List.set_cons_zero, List.set_cons_succ]
                      with_reducible refine BigFrame.wpQuiet_want (by kernel_rfl) (fun K hK => ?_)
                      apply Exists.intro
                      refine ⟨fun w' hC => ?_, hK _ ?_⟩
                      · have f0' := HS0.out w' hC
                        have f1' := HS1.out w' hC
                        have f2' := HS2.out w' hC
                        have f3' := HS3.out w' hC
                        have f4' := HS4.out w' hC
                        have f5' := HS5.out w' hC
                        have f6' := HS6.out w' hC
                        have f7' := HS7.out w' hC
                        unfold Oper.quietAt
                        go_simp
                        first | with_reducible rfl | done
                      clear hK K
                      try simp only [Act.put, List.setIfInBounds_toArray, List.set_cons_zero, List.set_cons_succ]
                      with_reducible refine BigFrame.wpQuiet_want (by kernel_rfl) (fun K hK => ?_)
                      apply Exists.intro
                      refine ⟨fun w' hC => ?_, hK _ ?_⟩
                      · unfold Oper.quietAt
                        go_simp
                        first | with_reducible rfl | done
                      clear hK K
                      try simp only [Act.put, List.setIfInBounds_toArray, List.set_cons_zero, List.set_cons_succ]
                      with_reducible refine BigFrame.wpQuiet_want (by kernel_rfl) (fun K hK => ?_)
                      apply Exists.intro
                      refine ⟨fun w' hC => ?_, hK _ ?_⟩
                      · unfold Oper.quietAt
                        go_simp
                        first | with_reducible rfl | done
                      clear hK K
                      try simp only [Act.put, List.setIfInBounds_toArray, List.set_cons_zero, List.set_cons_succ]
                      with_reducible refine BigFrame.wpQuiet_want (by kernel_rfl) (fun K hK => ?_)
                      apply Exists.intro
                      refine ⟨fun w' hC => ?_, hK _ ?_⟩
                      · have f0' := HS0.out w' hC
                        have f1' := HS1.out w' hC
                        have f2' := HS2.out w' hC
                        have f3' := HS3.out w' hC
                        have f4' := HS4.out w' hC
                        have f5' := HS5.out w' hC
                        have f6' := HS6.out w' hC
                        have f7' := HS7.out w' hC
                        unfold Oper.quietAt
                        go_simp
                        first | with_reducible rfl | done
                      clear hK K
                      try simp only [Act.put, List.setIfInBounds_toArray, List.set_cons_zero, List.set_cons_succ]
                      with_reducible refine BigFrame.wpQuiet_want (by kernel_rfl) (fun K hK => ?_)
                      apply Exists.intro
                      refine ⟨fun w' hC => ?_, hK _ ?_⟩
                      · unfold Oper.quietAt
                        go_simp
                        first | with_reducible rfl | done
                      clear hK K
                      try simp only [Act.put, List.setIfInBounds_toArray, List.set_cons_zero, List.set_cons_succ]
                      with_reducible refine BigFrame.wpQuiet_want (by kernel_rfl) (fun K hK => ?_)
                      apply Exists.intro
                      refine ⟨fun w' hC => ?_, hK _ ?_⟩
                      · have f0' := HS0.out w' hC
                        have f1' := HS1.out w' hC
                        have f2' := HS2.out w' hC
                        have f3' := HS3.out w' hC
                        have f4' := HS4.out w' hC
                        have f5' := HS5.out w' hC
                        have f6' := HS6.out w' hC
                        have f7' := HS7.out w' hC
                        unfold Oper.quietAt
                        go_simp
                        first | with_reducible rfl | done
                      clear hK K
                      try simp only [Act.put, List.setIfInBounds_toArray, List.set_cons_zero, List.set_cons_succ]
                      with_reducible refine BigFrame.wpQuiet_want (by kernel_rfl) (fun K hK => ?_)
                      apply Exists.intro
                      refine ⟨fun w' hC => ?_, hK _ ?_⟩
                      · unfold Oper.quietAt
                        go_simp
                        first | with_reducible rfl | done
                      clear hK K
                      try simp only [Act.put, List.setIfInBounds_toArray, List.set_cons_zero, List.set_cons_succ]
                      with_reducible refine BigFrame.wpQuiet_want (by kernel_rfl) (fun K hK => ?_)
                      apply Exists.intro
                      refine ⟨fun w' hC => ?_, hK _ ?_⟩
                      · unfold Oper.quietAt
                        go_simp
                        first | with_reducible rfl | done
                      clear hK K
                      try simp only [Act.put, List.setIfInBounds_toArray, List.set_cons_zero, List.set_cons_succ]
                      with_reducible refine BigFrame.wpQuiet_want (by kernel_rfl) (fun K hK => ?_)
                      apply Exists.intro
                      refine ⟨fun w' hC => ?_, hK _ ?_⟩
                      · have f0' := HS0.out w' hC
                        have f1' := HS1.out w' hC
                        have f2' := HS2.out w' hC
                        have f3' := HS3.out w' hC
                        have f4' := HS4.out w' hC
                        have f5' := HS5.out w' hC
                        have f6' := HS6.out w' hC
                        have f7' := HS7.out w' hC
                        unfold Oper.quietAt
                        go_simp
                        first | with_reducible rfl | done
                      clear hK K
                      try simp only [Act.put, List.setIfInBounds_toArray, List.set_cons_zero, List.set_cons_succ]
                      with_reducible refine BigFrame.wpQuiet_want (by kernel_rfl) (fun K hK => ?_)
                      apply Exists.intro
                      refine ⟨fun w' hC => ?_, hK _ ?_⟩
                      · unfold Oper.quietAt
                        go_simp
                        first | with_reducible rfl | done
                      clear hK K
                      try simp only [Act.put, List.setIfInBounds_toArray, List.set_cons_zero, List.set_cons_succ]
                      with_reducible refine BigFrame.wpQuiet_want (by kernel_rfl) (fun K hK => ?_)
                      apply Exists.intro
                      refine ⟨fun w' hC => ?_, hK _ ?_⟩
                      · unfold Oper.quietAt
                        go_simp
                        first | with_reducible rfl | done
                      clear hK K
                      try simp only [Act.put, List.setIfInBounds_toArray, List.set_cons_zero, List.set_cons_succ]
                      with_reducible refine BigFrame.wpQuiet_want (by kernel_rfl) (fun K hK => ?_)
                      apply Exists.intro
                      refine ⟨fun w' hC => ?_, hK _ ?_⟩
                      · have f0' := HS0.out w' hC
                        have f1' := HS1.out w' hC
                        have f2' := HS2.out w' hC
                        have f3' := HS3.out w' hC
                        have f4' := HS4.out w' hC
                        have f5' := HS5.out w' hC
                        have f6' := HS6.out w' hC
                        have f7' := HS7.out w' hC
                        unfold Oper.quietAt
                        go_simp
                        first | with_reducible rfl | done
                      clear hK K
                      try simp only [Act.put, List.setIfInBounds_toArray, List.set_cons_zero, List.set_cons_succ]
                      with_reducible refine BigFrame.wpQuiet_want (by kernel_rfl) (fun K hK => ?_)
                      apply Exists.intro
                      refine ⟨fun w' hC => ?_, hK _ ?_⟩
                      · unfold Oper.quietAt
                        go_simp
                        first | with_reducible rfl | done
                      clear hK K
                      try simp only [Act.put, List.setIfInBounds_toArray, List.set_cons_zero, List.set_cons_succ]
                      with_reducible refine BigFrame.wpQuiet_want (by kernel_rfl) (fun K hK => ?_)
                      apply Exists.intro
                      refine ⟨fun w' hC => ?_, hK _ ?_⟩
                      · unfold Oper.quietAt
                        go_simp
                        first | with_reducible rfl | done
                      clear hK K
                      try simp only [Act.put, List.setIfInBounds_toArray, List.set_cons_zero, List.set_cons_succ]
                      with_reducible refine BigFrame.wpQuiet_want (by kernel_rfl) (fun K hK => ?_)
                      apply Exists.intro
                      refine ⟨fun w' hC => ?_, hK _ ?_⟩
                      · unfold Oper.quietAt
                        go_simp
                        first | with_reducible rfl | done
                      clear hK K
                      try simp only [Act.put, List.setIfInBounds_toArray, List.set_cons_zero, List.set_cons_succ]
                      refine wpQuiet_nil ?_
                      intro w9 hb9
                      have HB9 := hid (HZ.out.trans (hb9.mono HZ.out.size))
                      clear hb9
                      go_wp2_with fail
                      refine ⟨⟨q + 1, by omega, rfl, ⟨be, rfl, hid (by rw [HI2.out, ← HIB.out, HBE.out, Bool.false_or])⟩, HB9⟩, ?_⟩
                      show yl - ((q : Int) + 1).toNat < yl - ((q : Int)).toNat
                      omega
                    · go_wp2_with fail
                      refine wp_region_below (by kernel_rfl) (by kernel_rfl) ?_
                      with_reducible refine BigFrame.wpQuiet_want (by kernel_rfl) (fun K hK => ?_)
                      apply Exists.intro
                      refine ⟨fun w' hC => ?_, hK _ ?_⟩
                      · unfold Oper.quietAt
                        go_simp
                        first | with_reducible rfl | done
                      clear hK K
                      try simp only [Act.put, List.setIfInBounds_toArray, List.set_cons_zero, List.set_cons_succ]
                      with_reducible refine BigFrame.wpQuiet_want (by kernel_rfl) (fun K hK => ?_)
                      apply Exists.intro
                      refine ⟨fun w' hC => ?_, hK _ ?_⟩
                      · unfold Oper.quietAt
                        go_simp
                        first | with_reducible rfl | done
                      clear hK K
                      try simp only [Act.put, List.setIfInBounds_toArray, List.set_cons_zero, List.set_cons_succ]
                      with_reducible refine BigFrame.wpQuiet_skip (by kernel_rfl) ?_
                      try simp only [Act.put, List.setIfInBounds_toArray, List.set_cons_zero, List.set_cons_succ]
                      with_reducible refine BigFrame.wpQuiet_skip (by kernel_rfl) ?_
                      try simp only [Act.put, List.setIfInBounds_toArray, List.set_cons_zero, List.set_cons_succ]
                      with_reducible refine BigFrame.wpQuiet_skip (by kernel_rfl) ?_
                      try simp only [Act.put, List.setIfInBounds_toArray, List.set_cons_zero, List.set_cons_succ]
                      with_reducible refine BigFrame.wpQuiet_skip (by kernel_rfl) ?_
                      try simp only [Act.put, List.setIfInBounds_toArray, List.set_cons_zero, List.set_cons_succ]
                      with_reducible refine BigFrame.wpQuiet_skip (by kernel_rfl) ?_
                      try simp only [Act.put, List.setIfInBounds_toArray, List.set_cons_zero, List.set_cons_succ]
                      with_reducible refine BigFrame.wpQuiet_skip (by kernel_rfl) ?_
                      try simp only [Act.put, List.setIfInBounds_toArray, List.set_cons_zero, List.set_cons_succ]
                      with_reducible refine BigFrame.wpQuiet_skip (by kernel_rfl) ?_
                      try simp only [Act.put, List.setIfInBounds_toArray, List.set_cons_zero, List.set_cons_succ]
                      with_reducible refine BigFrame.wpQuiet_skip (by kernel_rfl) ?_
                      try simp only [Act.put, List.setIfInBounds_toArray, List.set_cons_zero, List.set_cons_succ]
                      with_reducible refine BigFrame.wpQuiet_skip (by kernel_rfl) ?_
                      try simp only [Act.put, List.setIfInBounds_toArray, List.set_cons_zero, List.set_cons_succ]
                      with_reducible refine BigFrame.wpQuiet_skip (by kernel_rfl) ?_
                      try simp only [Act.put, List.setIfInBounds_toArray, List.set_cons_zero, List.set_cons_succ]
                      with_reducible refine BigFrame.wpQuiet_skip (by kernel_rfl) ?_
                      try simp only [Act.put, List.setIfInBounds_toArray, List.set_cons_zero, List.set_cons_succ]
                      with_reducible refine BigFrame.wpQuiet_skip (by kernel_rfl) ?_
                      try simp only [Act.put, List.setIfInBounds_toArray, List.set_cons_zero, List.set_cons_succ]
                      with_reducible refine BigFrame.wpQuiet_skip (by kernel_rfl) ?_
                      try simp only [Act.put, List.setIfInBounds_toArray, List.set_cons_zero, List.set_cons_succ]
                      with_reducible refine BigFrame.wpQuiet_skip (by kernel_rfl) ?_
                      try simp only [Act.put, List.setIfInBounds_toArray, List.set_cons_zero, List.set_cons_succ]
                      with_reducible refine BigFrame.wpQuiet_skip (by kernel_rfl) ?_
                      try simp only [Act.put, List.setIfInBounds_toArray, List.set_cons_zero, List.set_cons_succ]
                      with_reducible refine BigFrame.wpQuiet_skip (by kernel_rfl) ?_
                      try simp only [Act.put, List.setIfInBounds_toArray, List.set_cons_zero, List.set_cons_succ]
                      with_reducible refine BigFrame.wpQuiet_skip (by kernel_rfl) ?_
                      try simp only [Act.put, List.setIfInBounds_toArray, List.set_cons_zero, List.set_cons_succ]
                      with_reducible refine BigFrame.wpQuiet_want (by kernel_rfl) (fun K hK => ?_)
                      apply Exists.intro
                      refine ⟨fun w' hC => ?_, hK _ ?_⟩
                      · unfold Oper.quietAt
                        go_simp
                        first | with_reducible rfl | done
                      clear hK K
                      try simp only [Act.put, List.setIfInBounds_toArray, List.set_cons_zero, List.set_cons_succ]
                      with_reducible refine BigFrame.wpQuiet_want (by kernel_rfl) (fun K hK => ?_)
                      apply Exists.intro
                      refine ⟨fun w' hC => ?_, hK _ ?_⟩
                      · unfold Oper.quietAt
                        go_simp
                        first | with_reducible rfl | done
                      clear hK K
                      try simp only [Act.put, List.setIfInBounds_toArray, List.set_cons_zero, List.set_cons_succ]
                      refine wpQuiet_nil ?_
                      intro w9 hb9
                      have HB9 := hid (HZ.out.trans (hb9.mono HZ.out.size))
                      clear hb9
                      go_wp2_with fail
                      refine ⟨⟨q + 1, by omega, rfl, ⟨true, rfl, hid (by rw [HI2.out, ← HIB.out, Bool.true_or])⟩, HB9⟩, ?_⟩
                      show yl - ((q : Int) + 1).toNat < yl - ((q : Int)).toNat
                      omega
                  · have q1 : ¬ (q : Int) < (yl : Int) := by omega
                    have hqe : q = yl := by omega
                    have HA3 := hid (show allU X Y (j + 1) = (ab && ib) from by rw [HA2.out, ← HABL.out, HIB.out, hqe, HYL.out])
                    clear hqe
                    cases ab
                    · go_wp2_with fail
                      refine ⟨⟨j + 1, by omega, rfl, ⟨false, rfl, hid (by rw [HA3.out, Bool.false_and])⟩, HZ⟩, ?_⟩
                      show xl - ((j : Int) + 1).toNat < xl - ((j : Int)).toNat
                      omega
                    · go_wp2_with fail
                      refine ⟨⟨j + 1, by omega, rfl, ⟨ib, rfl, hid (by rw [HA3.out, Bool.true_and])⟩, HZ⟩, ?_⟩
                      show xl - ((j : Int) + 1).toNat < xl - ((j : Int)).toNat
                      omega
              · have j1 : ¬ (j : Int) < (xl : Int) := by omega
                have hje : j = xl := by omega
                have HF3 := hid (show foundU KK X (k + 1) = (fb || ab) from by rw [HF2.out, ← HFB.out, HABL.out, hje, HXL.out])
                clear hje
                cases fb
                · go_wp2_with fail
                  refine ⟨⟨k + 1, by omega, rfl, ⟨ab, rfl, hid (by rw [HF3.out, Bool.false_or])⟩, HZ⟩, ?_⟩
                  show nb - ((k : Int) + 1).toNat < nb - ((k : Int)).toNat
                  omega
                · go_wp2_with fail
                  refine ⟨⟨k + 1, by omega, rfl, ⟨true, rfl, hid (by rw [HF3.out, Bool.true_or])⟩, HZ⟩, ?_⟩
                  show nb - ((k : Int) + 1).toNat < nb - ((k : Int)).toNat
                  omega
          · have k1 : ¬ (k : Int) < (nb : Int) := by omega
            obtain rfl : true = fb := by
              have hke : k = nb := by omega
              rw [HFB.out, hke, ← HNB2.out]
              exact HFX.out.symm
            go_wp2_with fail
            refine ⟨⟨i + 1, by omega, rfl, HZ⟩, ?_⟩
            show na - ((i : Int) + 1).toNat < na - ((i : Int)).toNat
            omega
      · have i1 : ¬ (i : Int) < (na : Int) := by omega
        go_wp2_with fail
        go_ret
        exact ⟨rfl, HB6.out.trans (HZ.out.mono HB6.out.size)⟩
end Go.Proofs.YtjpbhbfklkipkaaDoor
