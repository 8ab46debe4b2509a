/- Close, Behind; what is told of a map of rows. -/
import Derived.Test.YtjpbhbfklkipkaaDoorSk
import Derived.Test.YtjpbhbfklkipkaaDoorMk
import Derived.Test.YtjpbhbfklkipkaaDoorRi
namespace Go.Proofs.YtjpbhbfklkipkaaDoor
open Go Go.RowKit Go.Lib
open X14 (It thereX behX rightX sortX closeV closeX IsClose stepX)
open Go.Maps (Keyed)
set_option linter.unusedVariables false
set_option linter.unusedSimpArgs false
theorem rowH_items {w : World} {g c : Nat} {l : List It} (h : RowH w g l) (hl : l.length ≤ 9223372036854775807) : ItemsAt w (.slice (some ⟨g, 0, none⟩) l.length c) l := by
  refine ⟨_, _, rfl, hl, fun _ => ⟨g, 0, rfl, fun i hi => ?_⟩⟩
  dsimp only
  rw [show l.getD i (0, 0) = l[i] by rw [List.getD_eq_getElem?_getD, List.getElem?_eq_getElem hi]; rfl, Nat.zero_add]
  exact ⟨(h i hi).1, (h i hi).2.1⟩
theorem items_nil (w : World) : ItemsAt w (.slice none 0 0) [] := ⟨none, 0, rfl, by simp, fun h => absurd h (by simp)⟩
/-- What comes back are items that are read. -/
def ItemsP (L : List It) (w : World) (e : Ending) (w' : World) : Prop := ∃ rv, e = .returned rv ∧ ItemsAt w' rv L ∧ Below w.heap.size w w'
theorem closeV_eq {G : GD} {l : List It} (hv : validB G = true) : closeV G l = closeX G l := by unfold closeV; rw [if_pos hv]
theorem closeV_no {G : GD} {l : List It} (hv : validB G = false) : closeV G l = [] := by unfold closeV; rw [if_neg (by rw [hv]; exact Bool.false_ne_true)]
set_option maxRecDepth 100000 in
set_option maxHeartbeats 8000000 in
theorem Close_any {G : GD} {gv v : Value} {w : World} {l : List It} (h : Gram w gv G) (hi : ItemsAt w v l) (hl : l.length ≤ 100000) :
    Calls Tryd.prog 15 #[gv, v] w (ItemsP (closeV G l) w) := by
  have HGr := hid h
  obtain ⟨vo, vc, rfl, hvn⟩ := hi.len
  obtain ⟨tv, ov, sv, pv, tf, rv, h⟩ := h
  obtain ⟨W1, B, hW1, hB, c0, c1, c2, c3, c4, hG, hb, hsz⟩ := gr_box h
  have hgv := h.eq
  subst hgv hB
  have e1 := hW1.symm
  have HC := hid (And.intro c0 (And.intro c1 (And.intro c2 (And.intro c3 c4))))
  have HB1 := hid hb
  have HI := hid hi
  have KV := hid (Valid_any hG)
  obtain ⟨vv, hvv⟩ : ∃ vv, validB G = vv := ⟨_, rfl⟩
  have HVV := hid hvv
  rw [hvv] at KV
  clear h hG hW1 hb hi hvv
  go_enter Tryd.func15, Tryd.ntmps15
  go_wp2_with fail
  refine KV.out.mono ?_
  rintro e w2 ⟨rfl, hb2⟩
  have c0 := cell_below hb2 HC.out.1
  have c1 := cell_below hb2 HC.out.2.1
  have c2 := cell_below hb2 HC.out.2.2.1
  have c3 := cell_below hb2 HC.out.2.2.2.1
  have c4 := cell_below hb2 HC.out.2.2.2.2
  have HB2 := hid (HB1.out.trans (hb2.mono HB1.out.size))
  clear hb2 KV e1
  cases vv
  · go_wp2_with fail
    go_ret
    refine ⟨_, rfl, ?_, HB2.out⟩
    rw [closeV_no HVV.out]
    exact items_nil _
  · have KC := hid (closed_any (HGr.out.below HB2.out) HVV.out _ l (HI.out.below HB2.out) hl)
    go_wp2_with fail
    refine KC.out.mono ?_
    rintro e w3 ⟨g, c, L, h1, rfl, h2, h3, h4, h5⟩
    have HE := hid (show closeV G l = L from by rw [closeV_eq HVV.out]; exact (X14.closeX_eq h1).symm)
    have HR := hid h2
    have HB3 := hid (HB2.out.trans (h5.mono HB2.out.size))
    clear h1 h2 h3 h4 h5 KC
    go_wp2_with fail
    go_ret
    refine ⟨_, rfl, ?_, HB3.out⟩
    rw [HE.out]
    exact rowH_items HR.out (by rw [← HE.out]; exact Nat.le_trans (X14.closeV_len G l) (by decide))
set_option maxRecDepth 100000 in
set_option maxHeartbeats 8000000 in
theorem Behind_any {G : GD} {gv : Value} {w : World} (h : Gram w gv G) (x : It) :
    Calls Tryd.prog 12 #[gv, itV x] w (BehVP G x w) := by
  have HGr := hid h
  obtain ⟨tv, ov, sv, pv, tf, rv, h⟩ := h
  obtain ⟨W1, B, hW1, hB, c0, c1, c2, c3, c4, hG, hb, hsz⟩ := gr_box h
  have hgv := h.eq
  subst hgv hB
  have e1 := hW1.symm
  obtain ⟨W2, e2⟩ : ∃ W2, W1.alloc (.cells #[.int .i64 x.1, .int .i64 x.2] 37) = W2 := ⟨_, rfl⟩
  have hb2 : Below W1.heap.size W1 W2 := by rw [← e2]; exact (Below.refl _ _).alloc (Nat.le_refl _) _
  have n2 : W2.heap[W1.heap.size]? = some (.cells #[.int .i64 x.1, .int .i64 x.2] 37 (0, 0)) := by rw [← e2]; exact heap_alloc_new _ _
  have lW : W1.heap.size < W2.heap.size := (Array.getElem?_eq_some_iff.1 n2).1
  have HB2 := hid (hb.trans (hb2.mono hsz))
  have c0 := cell_below hb2 c0
  have c1 := cell_below hb2 c1
  have c2 := cell_below hb2 c2
  have c3 := cell_below hb2 c3
  have c4 := cell_below hb2 c4
  have d0 : W2.cell? ⟨W1.heap.size, 0, none⟩ = some (.int .i64 x.1) := Lib.cell_of_heap n2 0
  have d1 : W2.cell? ⟨W1.heap.size, 1, none⟩ = some (.int .i64 x.2) := Lib.cell_of_heap n2 1
  have HC := hid (And.intro c0 (And.intro c1 (And.intro c2 (And.intro c3 (And.intro c4 (And.intro d0 d1))))))
  have KV := hid (Valid_any (hG.mono hb2))
  obtain ⟨vv, hvv⟩ : ∃ vv, validB G = vv := ⟨_, rfl⟩
  have HVV := hid hvv
  have HIV := hid (show isV G x = (vv && thereX G x) from by unfold isV; rw [hvv])
  have HIN := hid (show isV G x = false → behV G x = none from behV_no)
  have HIY := hid (show isV G x = true → behV G x = behX G x from fun _ => by unfold behV; split <;> rename_i k; rfl; rename_i q; exact absurd (X14.isV_iff.1 q).1 k)
  rw [hvv] at KV
  unfold itV
  clear h hG hW1 hb hb2 n2 hvv
  go_enter Tryd.func12, Tryd.ntmps12
  go_wp2_with fail
  refine KV.out.mono ?_
  rintro e w3 ⟨rfl, hb3⟩
  have c0 := cell_below hb3 HC.out.1
  have c1 := cell_below hb3 HC.out.2.1
  have c2 := cell_below hb3 HC.out.2.2.1
  have c3 := cell_below hb3 HC.out.2.2.2.1
  have c4 := cell_below hb3 HC.out.2.2.2.2.1
  have d0 := cell_below hb3 HC.out.2.2.2.2.2.1
  have d1 := cell_below hb3 HC.out.2.2.2.2.2.2
  have HC := hid (And.intro c0 (And.intro c1 (And.intro c2 (And.intro c3 (And.intro c4 (And.intro d0 d1))))))
  have HB3 := hid (HB2.out.trans (hb3.mono HB2.out.size))
  clear hb3 KV e1 e2
  cases vv
  · have HN := hid (HIN.out HIV.out)
    go_wp2_with fail
    refine bodyPost_ret (results_tmp2 rfl _ _ _) rfl ?_
    refine ⟨?_, HB3.out⟩
    rw [HN.out]
    rfl
  · rw [Bool.true_and] at HIV
    obtain ⟨th, hth⟩ : ∃ th, thereX G x = th := ⟨_, rfl⟩
    have KT := there_any (HGr.out.below HB3.out) HVV.out x
    rw [hth] at KT HIV
    have KT := hid KT
    have HTH := hid hth
    unfold itV at KT
    clear hth
    go_wp2_with fail
    refine KT.out.mono ?_
    rintro e w4 ⟨rfl, hb4⟩
    have c0 := cell_below hb4 HC.out.1
    have c1 := cell_below hb4 HC.out.2.1
    have c2 := cell_below hb4 HC.out.2.2.1
    have c3 := cell_below hb4 HC.out.2.2.2.1
    have c4 := cell_below hb4 HC.out.2.2.2.2.1
    have d0 := cell_below hb4 HC.out.2.2.2.2.2.1
    have d1 := cell_below hb4 HC.out.2.2.2.2.2.2
    have HB4 := hid (HB3.out.trans (hb4.mono HB3.out.size))
    clear hb4 KT
    cases th
    · have HN := hid (HIN.out HIV.out)
      go_wp2_with fail
      refine bodyPost_ret (results_tmp2 rfl _ _ _) rfl ?_
      refine ⟨?_, HB4.out⟩
      rw [HN.out]
      rfl
    · have KB := behind_any (HGr.out.below HB4.out) HVV.out x HTH.out
      unfold BehP at KB
      rw [← HIY.out HIV.out] at KB
      obtain ⟨sy, hsy⟩ : ∃ sy, (behV G x).getD 0 = sy := ⟨_, rfl⟩
      obtain ⟨ok, hok⟩ : ∃ ok, (behV G x).isSome = ok := ⟨_, rfl⟩
      rw [hsy, hok] at KB
      have KB := hid KB
      unfold itV at *
      have HSY := hid hsy
      have HOK := hid hok
      clear hsy hok
      go_wp2_with fail
      refine KB.out.mono ?_
      rintro e w5 ⟨rfl, hb5⟩
      have HB5 := hid (HB4.out.trans (hb5.mono HB4.out.size))
      clear hb5 KB
      go_wp2_with fail
      refine bodyPost_ret (results_tmp2 rfl _ _ _) rfl ?_
      refine ⟨?_, HB5.out⟩
      rw [HSY.out, HOK.out]
      rfl
end Go.Proofs.YtjpbhbfklkipkaaDoor
