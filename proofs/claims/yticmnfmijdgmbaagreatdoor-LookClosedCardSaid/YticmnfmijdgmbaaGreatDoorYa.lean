/- What is ahead: the mathematics of the laws. -/
import Derived.Test.YticmnfmijdgmbaaGreatDoorTa
import Derived.Test.YticmnfmijdgmbaaGreatDoorQMl
namespace Go.Proofs.YticmnfmijdgmbaaGreatDoor.S13
open X14 (It exG)
set_option linter.unusedVariables false
set_option linter.unusedSimpArgs false
namespace X15
open X14 (rightX behX sortX closeX stepX iterB BuiltOk symsX InC thereX)
theorem ex_C {E : List Bool} {F : List Nat} {i : Nat} (hi : i < 3) : (cxB exG 3 E F).C i = [[((-1 : Int), (0 : Int)), (0, 0)], [(0, 1)], [(-1, 1)]].getD i [] := by
 show closeX exG ((iterB exG 3).ker.getD i []) = _
 rw [X14.ex_i3.1]
 have : i = 0 ∨ i = 1 ∨ i = 2 := by omega
 rcases this with rfl | rfl | rfl
 ·exact X14.ex_c0
 ·exact X14.ex_c1
 ·exact X14.ex_c2
theorem ex_to {E : List Bool} {F : List Nat} : (cxB exG 3 E F).to 0 0 = 1 ∧ (cxB exG 3 E F).to 0 (-1) = 2 := by
 refine ⟨?_, ?_⟩
 ·show (goX exG (iterB exG 3).nx 0 0).toNat = 1
  rw [X14.ex_i3.2]; decide
 ·show (goX exG (iterB exG 3).nx 0 (-1)).toNat = 2
  rw [X14.ex_i3.2]; decide
theorem ex_sort {x : It} {s : Int} (h : behX exG x = some s) (hs : s < 0) : restX exG x = [] := by
 obtain ⟨h1, h2, h3, h4⟩ := X14.there_iff.1 (X14.beh_there h)
 obtain ⟨p, d⟩ := x
 have hp : p = -1 ∨ p = 0 := by have e : exG.prods.length = 1 := rfl; simp only [e] at h2; show p = -1 ∨ p = 0; have h1 : -1 ≤ p := h1; have h2 : p < ((1 : Nat) : Int) := h2; omega
 have h3 : 0 ≤ d := h3
 have hr : ∀ q : Int, q = -1 ∨ q = 0 → (rightX exG q).length = 1 := fun q hq => by rcases hq with rfl | rfl <;> decide
 unfold restX
 rw [List.drop_eq_nil_iff]
 show (rightX exG p).length ≤ d.toNat + 1
 rw [hr p hp]
 omega
theorem ex_A {E : List Bool} {F : List Nat} {A : Pl → Nat} (h : LeastA (askX (cxB exG 3 E F)) (places (cxB exG 3 E F) 3) (0, (-1, 0)) (bitN 63) A) : A (1, (0, 1)) = bitN 63 := by
 refine sub_antisymm ?_ ?_
 ·refine h.least (fun _ => bitN 63) (fun p hp e he => ?_) (sub_refl _) _ (mem_places.2 ⟨by omega, by rw [ex_C (by omega)]; simp⟩)
  cases hb : behX exG p.2 with
  | none => rw [askX_none (show behX (cxB exG 3 E F).G p.2 = none from hb)] at he; cases he
  | some s =>
   rw [askX_some (show behX (cxB exG 3 E F).G p.2 = some s from hb)] at he
   rcases List.mem_cons.1 he with e1 | e1
   ·subst e1; exact sub_refl _
   ·by_cases hs : s < 0
    ·rw [if_pos hs] at e1
     obtain ⟨q, h3, h4, rfl⟩ := needX_mem.1 e1
     have hr : restX (cxB exG 3 E F).G p.2 = [] := ex_sort hb hs
     unfold fstX nulX
     rw [hr]
     show Sub (0 ||| bitN 63) (bitN 63)
     rw [Nat.zero_or]
     exact sub_refl _
    ·rw [if_neg hs] at e1; cases e1
 ·have hc0 : ((-1 : Int), (0 : Int)) ∈ (cxB exG 3 E F).C 0 := by rw [ex_C (by omega)]; simp
  have hc1 : ((0 : Int), (0 : Int)) ∈ (cxB exG 3 E F).C 0 := by rw [ex_C (by omega)]; simp
  have h1 := h.more (s := -1) (q := 0) (by omega) hc0 X14.ex_beh0 (by omega) (show 0 < exG.prods.length by decide) (show sortX exG 0 = -1 - -1 by decide)
  have hr : restX (cxB exG 3 E F).G ((-1 : Int), (0 : Int)) = [] := ex_sort X14.ex_beh0 (by omega)
  rw [hr] at h1
  have h2 := h.goto_ (s := 0) (by omega) hc1 X14.ex_beh1
  rw [ex_to.1] at h2
  exact sub_trans h.start (sub_trans h1 h2)
theorem ahead_follows {G : GD} {n : Nat} {E : List Bool} {F W : List Nat} {A : Pl → Nat} (hV : validB G = true) (hF : F.length = G.sorts.length)
  (h : LeastA (askX (cxB G n E F)) (places (cxB G n E F) n) (0, (-1, 0)) (bitN 63) A) (hW : LeastS (evW G.terms.length E F G.start G.prods) G.sorts.length W) {i : Nat} {x : It} (hi : i < n) (hx : x ∈ (cxB G n E F).C i) (h0 : 0 ≤ x.1) :
  Sub (A (i, x)) (W.getD (sortX G x.1.toNat).toNat 0) := by
 have hm := h.least (fun q => if q.2.1 = -1 then bitN 63 else W.getD (sortX G q.2.1.toNat).toNat 0) (fun p hp e he => ?_) (by rw [if_pos rfl]; exact sub_refl _) (i, x) (mem_places.2 ⟨hi, hx⟩)
 ·have : ¬ x.1 = -1 := by omega
  simpa [this] using hm
 ·obtain ⟨j, y⟩ := p
  obtain ⟨p1, p2⟩ := mem_places.1 hp
  cases hbe : behX G y with
  | none => rw [askX_none hbe] at he; cases he
  | some s =>
   rw [askX_some hbe] at he
   rcases List.mem_cons.1 he with e1 | e1
   ·subst e1
    exact sub_refl _
   ·by_cases hs : s < 0
    ·rw [if_pos hs] at e1
     obtain ⟨q, h3, h4, rfl⟩ := needX_mem.1 e1
     have hne : ¬ ((q : Int) = -1) := by omega
     refine Eq.subst (motive := fun z => Sub _ z) (if_neg hne).symm ?_
     have hq : (((q : Nat) : Int)).toNat = q := by omega
     show Sub _ (W.getD (sortX G ((q : Nat) : Int).toNat).toNat 0)
     rw [hq, show sortX G q = -1 - s from h4]
     show Sub (fstX (cxB G n E F) y ||| (if nulX (cxB G n E F) y = true then (if y.1 = -1 then bitN 63 else W.getD (sortX G y.1.toNat).toNat 0) else 0)) (W.getD (-1 - s).toNat 0)
     by_cases hy : y.1 = -1
     ·have hy' : (j, y).2.1 = -1 := hy
      have hbs : s = -1 - G.start := by
       obtain ⟨_, _, t3, t4⟩ := X14.there_iff.1 (X14.beh_there hbe)
       have hyy := whole_dot (X14.beh_there hbe) hy
       rcases hyy with rfl | rfl
       ·rw [beh0] at hbe; exact (Option.some.inj hbe).symm
       ·exfalso
        unfold behX at hbe
        rw [if_pos (X14.beh_there (by unfold behX; exact hbe))] at hbe
        have : (rightX G (-1))[1]? = some s := hbe
        unfold rightX at this
        simp at this
      have hrest : restX (cxB G n E F).G y = [] := by
       unfold restX
       rw [hy]
       exact List.drop_eq_nil_iff.2 (by show 1 ≤ y.2.toNat + 1; omega)
      unfold fstX nulX
      rw [hrest]
      show Sub (0 ||| (if y.1 = -1 then bitN 63 else W.getD (sortX G y.1.toNat).toNat 0)) _
      rw [if_pos hy, Nat.zero_or, hbs, show (-1 - (-1 - G.start)).toNat = G.start.toNat by omega]
      exact hW.2.1 (G.start.toNat, fun _ => bitN 63) List.mem_cons_self
     ·obtain ⟨t1, t2, t3, t4⟩ := X14.there_iff.1 (X14.beh_there hbe)
      rw [if_neg hy]
      show Sub (ofRow G.terms.length E F (restX G y) 0 ||| (if nulB E F.length (restX G y) = true then W.getD (sortX G y.1.toNat).toNat 0 else 0)) _
      rw [← ofRow_split]
      have hyr : rightX G y.1 = (G.prods.getD y.1.toNat default).rs := by unfold rightX; rw [if_neg hy]
      have hbe2 : (G.prods.getD y.1.toNat default).rs[y.2.toNat]? = some s := by
       unfold behX at hbe
       rw [if_pos (X14.beh_there (by unfold behX; exact hbe)), hyr] at hbe
       exact hbe
      have hgd : (G.prods.getD y.1.toNat default).rs.getD y.2.toNat 0 = s := X14.getD_get hbe2
      have hmem := evSym_mem (nt := G.terms.length) (E := E) (F := F) (ps := G.prods) (st := G.start) (j := y.1.toNat) (k := y.2.toNat) (by omega) (List.getElem?_eq_some_iff.1 hbe2).1 (by rw [hgd]; exact hs)
      have := hW.2.1 _ hmem
      rw [hgd] at this
      unfold restX
      rw [hyr]
      exact this
    ·rw [if_neg hs] at e1; cases e1
theorem row_some {G : GD} (hV : validB G = true) {E L : List Bool} {F : List Nat} (hE : Least false G.prods G.sorts.length E) (hL : Least true G.prods G.sorts.length L) (hF : LeastS (evF G.terms.length E G.prods) G.sorts.length F) (hlive : ∀ i, i < G.sorts.length → L.getD i false = true)
  {b : Nat} (hb : b ≠ 0) : ∀ (l : List Int), RowOk G.terms.length G.sorts.length l → ofRow G.terms.length E F l b ≠ 0
 | [], _ => hb
 | s :: l, hr => by
  have ih := row_some hV hE hL hF hlive hb l (fun x hx => hr x (List.mem_cons_of_mem _ hx))
  have hs := hr s List.mem_cons_self
  obtain ⟨n60, _, _⟩ := valid_few hV
  unfold ofRow
  by_cases h0 : 0 ≤ s
  ·rw [if_pos h0, if_pos (by omega)]
   exact bitN_ne h0 (by omega)
  ·rw [if_neg h0, if_neg (by rw [hF.length]; omega)]
   rcases lives_begins hV hE hL hF (-1 - s).toNat (hlive _ (by omega)) with h1 | h1
   ·rw [if_pos h1]
    exact fun h => ih (or_zero_right h)
   ·exact fun h => h1 (or_zero_left h)
theorem rest_ok {G : GD} (hV : validB G = true) {x : It} (hx : thereX G x = true) : RowOk G.terms.length G.sorts.length (restX G x) := by
 intro s hs
 obtain ⟨t1, t2, t3, t4⟩ := X14.there_iff.1 hx
 have hs := List.mem_of_mem_drop hs
 unfold rightX at hs
 by_cases h : x.1 = -1
 ·rw [if_pos h] at hs
  obtain rfl : s = -1 - G.start := by simpa using hs
  have := valid_start hV
  omega
 ·rw [if_neg h] at hs
  have hlt : x.1.toNat < G.prods.length := by omega
  have hmem : G.prods.getD x.1.toNat default ∈ G.prods := by
   rw [List.getD_eq_getElem?_getD, List.getElem?_eq_getElem hlt]; exact List.getElem_mem _
  exact (valid_rows hV _ hmem).2.2 s hs
theorem ahead_some {G : GD} {n : Nat} {E L : List Bool} {F : List Nat} {A : Pl → Nat} (hV : validB G = true) (hb : BuiltOk G n) (hS : SymOk G) (hE : Least false G.prods G.sorts.length E) (hL : Least true G.prods G.sorts.length L) (hF : LeastS (evF G.terms.length E G.prods) G.sorts.length F) (hlive : ∀ i, i < G.sorts.length → L.getD i false = true)
  (h : LeastA (askX (cxB G n E F)) (places (cxB G n E F) n) (0, (-1, 0)) (bitN 63) A) : ∀ (i : Nat), i < n → ∀ x ∈ (cxB G n E F).C i, A (i, x) ≠ 0 := by
 intro i
 induction i using Nat.strongRecOn with
 | ind i ih =>
  intro hi x hx
  have hker : ∀ x, x ∈ (iterB G n).ker.getD i [] → thereX G x = true → A (i, x) ≠ 0 := by
   intro x hx ht
   obtain ⟨hI, ha, hl⟩ := hb.inv
   rcases Nat.eq_zero_or_pos i with e | e
   ·subst e
    rw [X14.getD_get hI.first] at hx
    obtain rfl : x = (-1, 0) := by simpa using hx
    intro e
    have h1 := h.start
    rw [e] at h1
    exact bitN_ne (s := 63) (by omega) (by omega) (sub_antisymm h1 (zero_sub _))
   ·obtain ⟨j, k, R, a1, a2, a3, a4, a5⟩ := hI.come i e (by omega)
    obtain ⟨s, hs⟩ : ∃ s, (symsX G)[k]? = some s := ⟨_, List.getElem?_eq_getElem a5⟩
    rcases hI.to_ a1 hs a3 a4 with ⟨e1, _⟩ | ⟨q, e1, _, _, e4⟩
    ·omega
    ·obtain rfl : i = q := by omega
     rw [X14.getD_get e4] at hx
     obtain ⟨y, hy, hby, rfl⟩ := X14.mem_step.1 hx
     have hyC : y ∈ (cxB G n E F).C j := hy
     obtain ⟨q2, g1, g2, g3, g4, g5⟩ := go_built (E := E) (F := F) hb hS (show j < n by omega) hyC hby
     have hq : q2 = i := by
      have : (iterB G n).ker[q2]? = (iterB G n).ker[i]? := g5.trans e4.symm
      exact (List.getElem?_inj (by rw [hl]; exact g4) hI.kers.nd).1 this
     subst hq
     have h1 := ih j a2 (by omega) y hyC
     have h2 := h.goto_ (show j < n by omega) hyC hby
     rw [g2] at h2
     intro e0
     rw [e0] at h2
     exact h1 (sub_antisymm h2 (zero_sub _))
  have hin : InC G ((iterB G n).ker.getD i []) x := mem_C.1 hx
  clear hx
  induction hin with
  | base x hx ht => exact hker x hx ht
  | more x s p hx hbx hs hp he ihx =>
   have h1 := h.more (s := s) (q := p) hi (mem_C.2 hx) hbx hs hp he
   intro e0
   rw [e0] at h1
   exact row_some hV hE hL hF hlive ihx _ (rest_ok hV hx.there) (sub_antisymm h1 (zero_sub _))
def cntW (l : List It) : Nat := (l.filter fun x => decide (x.1 = -1)).length
def cntS (C : Nat → List It) (n : Nat) : Nat := ((List.range n).map fun i => cntW (C i)).sum
theorem cntW_snoc (l : List It) (x : It) : cntW (l ++ [x]) = cntW l + (if x.1 = -1 then 1 else 0) := by
 unfold cntW
 rw [List.filter_append, List.length_append]
 by_cases h : x.1 = -1 <;> simp [h]
theorem cntW_take {l : List It} {k : Nat} {x : It} (h : l[k]? = some x) : cntW (l.take (k + 1)) = cntW (l.take k) + (if x.1 = -1 then 1 else 0) := by
 have : l.take (k + 1) = l.take k ++ [x] := by rw [List.take_add_one, h]; rfl
 rw [this, cntW_snoc]
theorem cntS_succ (C : Nat → List It) (n : Nat) : cntS C (n + 1) = cntS C n + cntW (C n) := by
 unfold cntS
 rw [List.range_succ, List.map_append, List.sum_append]
 simp
theorem cntW_one {l : List It} (hn : l.Nodup) {d : Int} (hd : ∀ x ∈ l, x.1 = -1 → x = (-1, d)) : cntW l = if ((-1 : Int), d) ∈ l then 1 else 0 := by
 unfold cntW
 induction l with
 | nil => simp
 | cons a l ih =>
  rw [List.nodup_cons] at hn
  have ih := ih hn.2 (fun x hx => hd x (List.mem_cons_of_mem _ hx))
  rw [List.filter_cons]
  by_cases h : a.1 = -1
  ·have ha := hd a List.mem_cons_self h
   subst ha
   rw [if_neg hn.1] at ih
   simp [ih]
  ·have hne : ¬ ((-1 : Int), d) = a := fun e => h (by rw [← e])
   simp only [h, decide_false, List.mem_cons, hne, false_or]
   exact ih
theorem two_whole {G : GD} {n : Nat} {E : List Bool} {F : List Nat} (hb : BuiltOk G n) (hS : SymOk G) : cntS (cxB G n E F).C n = 2 := by
 obtain ⟨q, _, e1, e2, e3, e4⟩ := go_built (E := E) (F := F) hb hS (n_pos hb) (first_in hb) beh0
 have hn : ∀ i, ((cxB G n E F).C i).Nodup := fun i => X14.Rise.nodup (X14.closeX_is G _).1
 have h : ∀ i, i < n → cntW ((cxB G n E F).C i) = (if i = 0 then 1 else 0) + (if i = q then 1 else 0) := by
  intro i hi
  by_cases h0 : i = 0
  ·subst h0
   rw [if_pos rfl, if_neg (by omega)]
   have := cntW_one (hn 0) (d := 0) (fun x hx h1 => by
    rcases whole_dot (mem_C.1 hx).there h1 with e | e
    ·exact e
    ·subst e
     have := (one_place hb hS hi).1 hx
     omega)
   rw [this, if_pos (first_in hb)]
  ·rw [if_neg h0]
   have := cntW_one (hn i) (d := 1) (fun x hx h1 => by
    rcases whole_dot (mem_C.1 hx).there h1 with e | e
    ·subst e
     exact absurd (whole_first hb hi hx) h0
    ·exact e)
   rw [this]
   by_cases h2 : i = q
   ·rw [if_pos h2, if_pos ((one_place hb hS hi).2 (by omega))]
   ·rw [if_neg h2, if_neg (fun hc => h2 (by have := (one_place hb hS hi).1 hc; omega))]
 have h2 : ∀ m, m ≤ n → cntS (cxB G n E F).C m = (if 0 < m then 1 else 0) + (if q < m then 1 else 0) := by
  intro m
  induction m with
  | zero => intro _; rfl
  | succ m ih =>
   intro hm
   rw [cntS_succ, ih (by omega), h m (by omega)]
   split <;> split <;> split <;> split <;> split <;> split <;> omega
 have := h2 n (Nat.le_refl _)
 rw [if_pos (n_pos hb), if_pos e3] at this
 exact this
end X15
end Go.Proofs.YticmnfmijdgmbaaGreatDoor.S13
