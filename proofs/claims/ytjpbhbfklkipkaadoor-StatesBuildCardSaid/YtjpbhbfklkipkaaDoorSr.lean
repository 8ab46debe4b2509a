/- Items by the symbols behind their dots: the call. -/
import Derived.Test.YtjpbhbfklkipkaaDoorSq
namespace Go.Proofs.YtjpbhbfklkipkaaDoor
open Go Go.RowKit Go.Lib
open X14 (It thereX behX rightX sortX stepX closeV stepV)
open Go.Maps (Keyed)
set_option linter.unusedVariables false
set_option linter.unusedSimpArgs false
def StepsP (f : Int → List It) (w : World) (e : Ending) (w' : World) : Prop := ∃ b M, e = .returned (.map (some b)) ∧ StI w w' f b M
theorem step_one {G : GD} {c : List It} {k : Nat} {x : It} {sy : Int} (hx : c[k]? = some x) (hb : behX G x = some sy) (t : Int) : stepX G (c.take (k + 1)) t = if t = sy then stepX G (c.take k) sy ++ [(x.1, x.2 + 1)] else stepX G (c.take k) t := by
  rw [X14.stepX_take hx t, hb]
  by_cases h : t = sy
  · subst h; simp
  · rw [if_neg h, if_neg (fun e => h (by injection e with e; exact e.symm)), List.append_nil]
theorem step_off {G : GD} {c : List It} {k : Nat} {x : It} (hx : c[k]? = some x) (hb : behX G x = none) (t : Int) : stepX G (c.take (k + 1)) t = stepX G (c.take k) t := by
  rw [X14.stepX_take hx t, hb, if_neg (by simp), List.append_nil]
theorem step_len {G : GD} {c : List It} {k : Nat} (t : Int) : (stepX G (c.take k) t).length ≤ c.length := by
  unfold X14.stepX
  rw [List.length_map]
  refine Nat.le_trans (List.length_filter_le _ _) ?_
  rw [List.length_take]; omega
theorem keep27 {w w' : World} {B n b : Nat} {v : Value} {xs : List Value} {cs : Array Value} (hg : w.grownBy w' v.ownBlock) (ho : w.ownsRow B 37 2 v n xs) (hb : w.heap[b]? = some (.cells cs 27 (0, 0))) : w'.heap[b]? = some (.cells cs 27 (0, 0)) := by
  refine (hg.block b (Array.getElem?_eq_some_iff.1 hb).1 fun e => ?_).trans hb
  rcases ho.2 with ⟨rfl, _⟩ | ⟨g, cap, cur, rfl, _, hh, _⟩
  · cases e
  · have e' : b = g := Option.some.inj e
    rw [← e', hb] at hh
    injection hh with hh
    cases hh
theorem keep27m {w w' : World} {b g : Nat} {k : TypeId} {L : List (Value × Value)} {cs : Array Value} (hg : w.grownBy w' (some g)) (hm : MapIs Tryd.prog k w g L) (hb : w.heap[b]? = some (.cells cs 27 (0, 0))) : w'.heap[b]? = some (.cells cs 27 (0, 0)) :=
  (hg.block b (Array.getElem?_eq_some_iff.1 hb).1 fun e => map_not_cells hm (by rw [← Option.some.inj e]; exact hb) rfl).trans hb
set_option maxRecDepth 100000 in
set_option maxHeartbeats 16000000 in
theorem steps_any {G : GD} {gv v : Value} {w : World} {c : List It} (h : Gram w gv G) (hv : validB G = true) (hi : ItemsAt w v c) (hth : ∀ x ∈ c, thereX G x = true) (hl : c.length ≤ 2000) :
    Calls Tryd.prog 32 #[gv, v] w (StepsP (stepX G c) w) := by
  have HGr := hid h
  have HV := hid hv
  have HTH := hid hth
  have HI := hid hi
  obtain ⟨vo, vc, rfl, hvn⟩ := hi.len
  obtain ⟨n, hln⟩ : ∃ n, c.length = n := ⟨_, rfl⟩
  have HLN := hid hln
  obtain ⟨tv, ov, sv, pv, tf, rv, h⟩ := h
  have hgv := h.eq
  subst hgv
  rw [hln] at HI hvn hl ⊢
  clear h hi hln hth
  obtain ⟨W1, e1⟩ : ∃ W1, w.alloc (.cells #[tv, ov, sv, pv, .int .i64 G.start] 27) = W1 := ⟨_, rfl⟩
  have hb1 : Below w.heap.size w W1 := by rw [← e1]; exact (Below.refl _ _).alloc (Nat.le_refl _) _
  have n1 : W1.heap[w.heap.size]? = some (.cells #[tv, ov, sv, pv, .int .i64 G.start] 27 (0, 0)) := by rw [← e1]; exact new_block _ _
  obtain ⟨W2, e2⟩ : ∃ W2, W1.alloc (.map #[] 0) = W2 := ⟨_, rfl⟩
  have hS0 := StI.start w W1 hb1
  have hb2 : Below W1.heap.size W1 W2 := by rw [← e2]; exact (Below.refl _ _).alloc (Nat.le_refl _) _
  rw [e2] at hS0
  have HS0 := hid hS0
  have HG0 := hid ((hb2.block _ (Array.getElem?_eq_some_iff.1 n1).1).trans n1)
  obtain ⟨b, hb⟩ : ∃ b, W1.heap.size = b := ⟨_, rfl⟩
  rw [hb] at HS0
  clear hb1 n1 hS0 hb2
  have hmm := @run_makeMap Tryd.prog
  go_enter Tryd.func32, Tryd.ntmps32
  go_wp2_with fail
  clear e1 e2
  go_loopw [7, 8, 9, 13] (fun t7 t8 t9 t13 wr => ∃ (k : Nat) (M : List Ent), k ≤ n ∧ t13 = .int .i64 (k : Int) ∧ Hid (StI w wr (stepX G (c.take k)) b M) ∧ Hid (wr.heap[w.heap.size]? = some (.cells #[tv, ov, sv, pv, .int .i64 G.start] 27 (0, 0)))) (fun _ _ _ t13 _ => n - (RowKit.intOf t13).toNat)
  case atStart => exact ⟨0, [], Nat.zero_le _, rfl, hid (HS0.out.same fun s => rfl), HG0⟩
  case round =>
    obtain ⟨k, M, hk, rfl, HS, HG⟩ := hrel
    by_cases hlt : k < n
    · have t1 : (k : Int) < (n : Int) := by omega
      have t2 : (0 : Int) ≤ (k : Int) := by omega
      obtain ⟨x, hx⟩ : ∃ x, c[k]? = some x := ⟨_, List.getElem?_eq_getElem (by rw [HLN.out]; exact hlt)⟩
      have HX := hid hx
      have hth := HTH.out x (List.mem_of_getElem? hx)
      have hx2 : 0 ≤ x.2 ∧ x.2 ≤ 12 := by
        have h1 := X14.there_iff.1 hth
        have h2 := X14.right_le HV.out h1.1 h1.2.1
        omega
      have hwx : IntKind.i64.wrap (x.2 + 1) = x.2 + 1 := wrap_small (by omega) (by omega)
      have hszr := HS.out.bel.size
      obtain ⟨lb, lo, rfl, q0, q1⟩ := HI.out.at_ hx
      have q0 := cell_below HS.out.bel q0
      have q1 := cell_below HS.out.bel q1
      obtain ⟨wx, ex⟩ : ∃ wx, wr.alloc (.cells #[.int .i64 0, .int .i64 0] 37) = wx := ⟨_, rfl⟩
      have nx : wx.heap[wr.heap.size]? = some (.cells #[.int .i64 0, .int .i64 0] 37 (0, 0)) := by rw [← ex]; exact new_block _ _
      obtain ⟨wa, ea⟩ : ∃ wa, wx.setCell ⟨wr.heap.size, 0, none⟩ (.int .i64 x.1) = wa := ⟨_, rfl⟩
      obtain ⟨wb, eb⟩ : ∃ wb, wa.setCell ⟨wr.heap.size, 1, none⟩ (.int .i64 x.2) = wb := ⟨_, rfl⟩
      have na : wa.heap[wr.heap.size]? = some (.cells #[.int .i64 x.1, .int .i64 0] 37 (0, 0)) := by rw [← ea]; exact heap_setCell_same _ _ 0 _ 37 _ nx
      have nb : wb.heap[wr.heap.size]? = some (.cells #[.int .i64 x.1, .int .i64 x.2] 37 (0, 0)) := by rw [← eb]; exact heap_setCell_same _ _ 1 _ 37 _ na
      have hbb : Below wr.heap.size wr wb := by
        rw [← eb, ← ea, ← ex]
        exact ((((Below.refl _ _).alloc (Nat.le_refl _) _).setCell (Nat.le_refl _) _).setCell (Nat.le_refl _) _)
      have c0 : wx.cell? ⟨wr.heap.size, 0, none⟩ = some (.int .i64 0) := Lib.cell_of_heap nx 0
      have f0 := Lib.frozen_of_heap nx 0
      have c1 : wa.cell? ⟨wr.heap.size, 1, none⟩ = some (.int .i64 0) := Lib.cell_of_heap na 1
      have f1 := Lib.frozen_of_heap na 1
      have d0 : wb.cell? ⟨wr.heap.size, 0, none⟩ = some (.int .i64 x.1) := Lib.cell_of_heap nb 0
      have d1 : wb.cell? ⟨wr.heap.size, 1, none⟩ = some (.int .i64 x.2) := Lib.cell_of_heap nb 1
      have hGb := (hbb.block _ (Array.getElem?_eq_some_iff.1 HG.out).1).trans HG.out
      have b0 : wb.cell? ⟨w.heap.size, 0, none⟩ = some tv := Lib.cell_of_heap hGb 0
      have b1 : wb.cell? ⟨w.heap.size, 1, none⟩ = some ov := Lib.cell_of_heap hGb 1
      have b2 : wb.cell? ⟨w.heap.size, 2, none⟩ = some sv := Lib.cell_of_heap hGb 2
      have b3 : wb.cell? ⟨w.heap.size, 3, none⟩ = some pv := Lib.cell_of_heap hGb 3
      have b4 : wb.cell? ⟨w.heap.size, 4, none⟩ = some (.int .i64 G.start) := Lib.cell_of_heap hGb 4
      have HSb := hid (HS.out.below hbb)
      have hKB := behind_any (HGr.out.below HSb.out.bel) HV.out x hth
      obtain ⟨sy, hsy⟩ : ∃ sy, (behX G x).getD 0 = sy := ⟨_, rfl⟩
      obtain ⟨ok, hok⟩ : ∃ ok, (behX G x).isSome = ok := ⟨_, rfl⟩
      unfold BehP itV at hKB
      rw [hsy, hok] at hKB
      have HBX := hid (show behX G x = if ok = true then some sy else none from by
        rw [← hsy, ← hok]
        cases behX G x <;> rfl)
      have KB := hid hKB
      have HNB := hid nb
      have HGB := hid hGb
      have lnb := (Array.getElem?_eq_some_iff.1 nb).1
      clear hx hth nx na nb hbb hGb hKB hsy hok
      go_wp2_with fail
      refine KB.out.mono ?_
      rintro e w5 ⟨rfl, hb5⟩
      have HS5 := hid (HSb.out.below hb5)
      have HG5 := hid ((hb5.block _ (Array.getElem?_eq_some_iff.1 HGB.out).1).trans HGB.out)
      have n5 := (hb5.block _ lnb).trans HNB.out
      have d0 : w5.cell? ⟨wr.heap.size, 0, none⟩ = some (.int .i64 x.1) := Lib.cell_of_heap n5 0
      have d1 : w5.cell? ⟨wr.heap.size, 1, none⟩ = some (.int .i64 x.2) := Lib.cell_of_heap n5 1
      clear hb5 KB HSb HGB HNB n5 c0 f0 c1 f1 b0 b1 b2 b3 b4 ex ea eb q0 q1 HS HG
      cases ok
      · have HS6 := hid (HS5.out.same (step_off HX.out HBX.out))
        go_wp2_with fail
        refine ⟨⟨k + 1, M, by omega, rfl, HS6, HG5⟩, ?_⟩
        show n - ((k : Int) + 1).toNat < n - ((k : Int)).toNat
        omega
      · have hbx : behX G x = some sy := HBX.out
        have hrg := beh_range HV.out hbx
        have hkey := key29 (s := sy) (by omega) (by omega)
        have HF := hid (step_one HX.out hbx)
        obtain ⟨F, hF⟩ : ∃ F, stepX G (c.take k) = F := ⟨_, rfl⟩
        have hFl : ∀ t, (F t).length ≤ 2000 := fun t => by rw [← hF]; exact Nat.le_trans (step_len t) (by rw [HLN.out]; exact hl)
        rw [hF] at HS5 HF
        obtain ⟨wq, eq⟩ : ∃ wq, w5.alloc (.cells #[.int .i64 x.1, .int .i64 (x.2 + 1)] 37) = wq := ⟨_, rfl⟩
        have hbq : Below w5.heap.size w5 wq := by rw [← eq]; exact (Below.refl _ _).alloc (Nat.le_refl _) _
        have HNQ := hid (show wq.heap[w5.heap.size]? = some (.cells #[.int .i64 x.1, .int .i64 (x.2 + 1)] 37 (0, 0)) from by rw [← eq]; exact new_block _ _)
        have HSq := hid (HS5.out.below hbq)
        have HGq := hid ((hbq.block _ (Array.getElem?_eq_some_iff.1 HG5.out).1).trans HG5.out)
        have hdq := HSq.out.bel.size
        clear hbq hbx hF
        by_cases hin : sy ∈ M.map (·.1)
        · obtain ⟨p, hpM, hpe⟩ := List.mem_map.1 hin
          obtain ⟨j, hj⟩ := List.mem_iff_getElem?.1 hpM
          subst hpe
          have HP := hid (And.intro hpM hj)
          have HME := hid (HS5.out.mem hpM)
          have hpl := hFl p.1
          obtain ⟨ln, hln2⟩ : ∃ ln, (F p.1).length = ln := ⟨_, rfl⟩
          have HLE := hid hln2
          unfold rowV at HME
          rw [hln2] at HME hpl
          have HOq := HSq.out.own p hpM
          unfold rowV at HOq
          rw [hln2] at HOq
          have HOq := hid HOq
          clear hin hpM hj hln2 hFl
          go_wp2_with (first | (at_lookup; refine wpList_look_some1 rfl (.tmp 26) (.tmp 27) 75 rfl keyed29 Tryd.underlying75 rfl HS5.out.map (.int .i64 p.1) (.slice (some ⟨p.2.1, 0, none⟩) ln p.2.2) (.int .i64 p.1) rfl hkey HME.out ?_) | (at_builtin; refine wpList_push37 rfl (.tmp 28) (.tmp 35) rfl w.heap.size (.slice (some ⟨p.2.1, 0, none⟩) ln p.2.2) ln (icells (F p.1)) rfl HOq.out w5.heap.size rfl x.1 (x.2 + 1) HNQ.out (by omega) hdq ?_))
          intro v7 w7 hown7 hg7 hat7
          have hmk : MapIs Tryd.prog 29 w7 b (M.map (entV F)) := HSq.out.map.kept (hg7.block b HSq.out.map.lt (fun e => by
            obtain ⟨cur, hc⟩ := own_block_cells HOq.out
            exact map_not_cells HSq.out.map hc (Option.some.inj e)))
          have HMK := hid hmk
          have HG7 := hid (keep27 hg7 HOq.out HGq.out)
          have HO7 := hid (And.intro hown7 (And.intro hg7 hat7))
          have HU := hid (show (M.map (entV F))[j]? = some (.int .i64 p.1, rowV p (F p.1)) from by rw [List.getElem?_map, HP.out.2]; rfl)
          clear hmk hown7 hg7 hat7 eq d0 d1
          go_wp2_with (at_mapUpdate; refine wpList_change rfl (.tmp 24) (.tmp 25) (.tmp 36) 75 (.inl rfl) keyed29 Tryd.underlying75 rfl HMK.out (.int .i64 p.1) v7 (.int .i64 p.1) rfl rfl hkey j (rowV p (F p.1)) HU.out ?_)
          intro w8 hm8 hg8
          obtain ⟨M', hM'⟩ := HSq.out.more (y := (x.1, x.2 + 1)) (f' := stepX G (c.take (k + 1))) HP.out.2 HF.out (by rw [HLE.out]; exact HO7.out.1) HO7.out.2.1 HO7.out.2.2 hm8 hg8
          have HS8 := hid hM'
          have HG8 := hid (keep27m hg8 HMK.out HG7.out)
          clear hm8 hg8 hM'
          go_wp2_with fail
          refine ⟨⟨k + 1, M', by omega, rfl, HS8, HG8⟩, ?_⟩
          show n - ((k : Int) + 1).toNat < n - ((k : Int)).toNat
          omega
        · have HIN := hid hin
          have HNN := hid (HS5.out.none_ hin)
          have HNL := hid (World.ownsRow_nil wq w.heap.size 37 2)
          clear hin hFl
          go_wp2_with (first | (at_lookup; refine wpList_look_none1 rfl (.tmp 26) (.tmp 27) 75 rfl keyed29 Tryd.underlying75 rfl HS5.out.map (.int .i64 sy) (.slice none 0 0) (.int .i64 sy) rfl hkey (zero28 _) HNN.out ?_) | (at_builtin; refine wpList_push37 rfl (.tmp 28) (.tmp 35) rfl w.heap.size (.slice none 0 0) 0 [] rfl HNL.out w5.heap.size rfl x.1 (x.2 + 1) HNQ.out (by omega) hdq ?_))
          intro v7 w7 hown7 hg7 hat7
          have hmk : MapIs Tryd.prog 29 w7 b (M.map (entV F)) := HSq.out.map.kept (hg7.block b HSq.out.map.lt (fun e => by cases e))
          have HMK := hid hmk
          have HG7 := hid (keep27 hg7 HNL.out HGq.out)
          have HO7 := hid (And.intro hown7 (And.intro hg7 hat7))
          have HNN := hid (HSq.out.none_ HIN.out)
          clear hmk hown7 hg7 hat7 eq d0 d1
          go_wp2_with (at_mapUpdate; refine wpList_put rfl (.tmp 24) (.tmp 25) (.tmp 36) 75 (.inl rfl) keyed29 Tryd.underlying75 rfl HMK.out (.int .i64 sy) v7 (.int .i64 sy) rfl rfl hkey HNN.out ?_)
          intro w8 hm8 hg8
          have HF2 := hid (show ∀ t, stepX G (c.take (k + 1)) t = if t = sy then [(x.1, x.2 + 1)] else F t from fun t => by rw [HF.out t, HSq.out.all sy HIN.out, List.nil_append])
          obtain ⟨M', hM'⟩ := HSq.out.new (y := (x.1, x.2 + 1)) HIN.out HF2.out HO7.out.1 HO7.out.2.1 HO7.out.2.2 hm8 hg8
          have HS8 := hid hM'
          have HG8 := hid (keep27m hg8 HMK.out HG7.out)
          clear hm8 hg8 hM'
          go_wp2_with fail
          refine ⟨⟨k + 1, M', by omega, rfl, HS8, HG8⟩, ?_⟩
          show n - ((k : Int) + 1).toNat < n - ((k : Int)).toNat
          omega
    · have t1 : ¬ (k : Int) < (n : Int) := by omega
      have hkn : k = n := by omega
      have HS9 := hid (show StI w wr (stepX G c) b M from by
        have := HS.out
        rw [hkn, ← HLN.out, List.take_length] at this
        exact this)
      clear hkn
      go_wp2_with fail
      go_ret
      exact ⟨b, M, rfl, HS9.out⟩
end Go.Proofs.YtjpbhbfklkipkaaDoor
