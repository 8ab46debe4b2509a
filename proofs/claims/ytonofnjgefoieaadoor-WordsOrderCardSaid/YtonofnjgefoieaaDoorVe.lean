/- The walk of the law WordsOrder. -/
import Derived.Test.YtonofnjgefoieaaDoorVb
namespace Go.Proofs.YtonofnjgefoieaaDoor
open Go Go.RowKit Go.Lib Go.Proofs.W8
set_option linter.unusedVariables false

theorem endL_take (L : List Wd) (j : Nat) (hj : j < L.length) : endL (L.take (j + 1)) = endW L[j] := by
  rw [List.take_succ_eq_append_getElem hj, endL_snoc]
theorem endL_all (L : List Wd) (j : Nat) (hj : L.length ≤ j) : endL (L.take j) = endL L := by rw [List.take_of_length_le hj]

theorem piece (s : ByteArray) (a : Nat) (x : List UInt8) (h1 : a + x.length ≤ s.size) (h : (s.data.toList.drop a).take x.length = x) : s.extract a (a + x.length) = bs x := by
  apply Go.WideShapes.bytes_inj
  have e : a + x.length - a = x.length := by omega
  simp [ByteArray.data_extract, Array.toList_extract, List.extract_eq_take_drop, bs, e, h]

set_option maxRecDepth 100000 in
set_option maxHeartbeats 8000000 in
theorem order_walk (t : ByteArray) (w : World) (hm : t.size ≤ maxLen) : Calls Tryd.prog 5 #[.string t] w fun e w' => e = .returned (.bool true) ∧ Below w.heap.size w w' := by
  have kw := hid fun w => word_works w
  by_cases hs : t.size ≤ 400
  · have i1 : (t.size : Int) ≤ 400 := by omega
    clear hm
    have k1 := hid fun w => Words_any t w (by unfold maxLen; omega)
    have htl : t.data.toList.length = t.size := rfl
    obtain ⟨hg, hbad, hend⟩ := words_good t.data.toList (by omega)
    have hLb : (words t.data.toList).1.length ≤ 401 := by have := words_len t.data.toList (by omega); omega
    generalize words t.data.toList = R at *
    obtain ⟨L, E, A⟩ := R
    simp only at hg hbad hend hLb
    rw [htl] at hbad
    have HGL := hid hg
    have HBAD := hid hbad
    have HEND := hid hend
    clear htl hg hbad hend
    go_enter Tryd.func5, Tryd.ntmps5
    go_wp2_with fail
    refine (kw.out _).mono ?_
    rintro e w1 ⟨rfl, hb1⟩
    go_wp2_with fail
    refine (k1.out _).mono ?_
    rintro e w2 ⟨v1, rfl, hr1, hb2⟩
    replace hb2 := hb1.trans (hb2.mono hb1.size)
    obtain ⟨a1, cap1, rfl, hc1, ho1⟩ := hr1.opened
    have H1 : Hid (L ≠ [] → ∃ g, a1 = some ⟨g, 0, none⟩ ∧ Cells4 g L w2 ∧ g < w2.heap.size) := fun h => by
      obtain ⟨g, e, h2, h3, _⟩ := ho1 h
      exact ⟨g, e, h2, h3⟩
    simp only at hc1
    clear hr1 ho1 k1 kw hb1
    go_wp2_with fail
    go_loopw [7, 8] (fun o i wr => ∃ j : Nat, j ≤ L.length ∧ i = .int .i64 (j : Int) ∧ o = .int .i64 (endL (L.take j) : Int) ∧ Below w2.heap.size w2 wr) (fun _ i _ => L.length - (Go.RowKit.intOf i).toNat)
    case atStart => exact ⟨0, Nat.zero_le _, rfl, rfl, Below.refl _ _⟩
    case round =>
      obtain ⟨j, hj, rfl, rfl, hbr⟩ := hrel
      have hz := hbr.size
      have hn0 : (0 : Int) ≤ (j : Int) := by omega
      by_cases hlt : j < L.length
      · obtain ⟨g1, rfl, hC1, hg1'⟩ := H1.out (by intro e; rw [e] at hlt; simp at hlt)
        obtain ⟨p1, p2, p3, p4⟩ := hC1 wr hbr j hlt
        have hgd := HGL.out j hlt
        have hET := hid (endL_take L j hlt)
        have hi1 : (j : Int) < (L.length : Int) := by omega
        have hg1 : g1 < wr.heap.size := by omega
        have hkn := hgd.kinds
        have haf := hgd.after
        have hwi := hgd.within
        rw [show t.data.toList.length = t.size from rfl] at hwi
        have haI : ((endL (L.take j) : Nat) : Int) ≤ (L[j].at_ : Int) := by omega
        have hwI : (L[j].at_ : Int) ≤ (t.size : Int) := by omega
        have n1 : decide (L[j].at_ < endL (L.take j)) = false := by simp; omega
        have n2 : decide (t.size < L[j].at_) = false := by simp; omega
        have hkind : L[j].kind = 4 ∨ L[j].kind = 3 ∨ L[j].kind = 0 ∨ L[j].kind = 1 ∨ L[j].kind = 2 := by omega
        rcases hkind with hk | hk | hk
        · have hen := hgd.ends hk
          have hpos : 0 < j := by
            rcases Nat.eq_zero_or_pos j with h | h
            · obtain ⟨x, hx, _⟩ := hen
              rw [h] at hx; simp at hx
            · exact h
          obtain ⟨j0, rfl⟩ : ∃ j0, j = j0 + 1 := ⟨j - 1, by omega⟩
          have hj0 : j0 < L.length := by omega
          have hprev : L[j0].kind ≠ 4 := by
            obtain ⟨x, hx, hx4⟩ := hen
            rw [List.take_succ_eq_append_getElem hj0, List.getLast?_concat] at hx
            cases hx; exact hx4
          have hE1 : endW L[j0 + 1] = L[j0 + 1].at_ := by unfold endW; rw [if_neg (by omega)]
          obtain ⟨r1, _, _, _⟩ := hC1 wr hbr j0 hj0
          have tp : ((L[j0].kind : Int) == 4) = false := by simp; omega
          rw [hk] at p1
          have HE := hid (hET.out.trans hE1)
          have hbr2 : Below w2.heap.size w2 (wr.alloc (.cells #[.int .i64 4, .string (bs L[j0 + 1].text), .int .i64 (L[j0 + 1].n : Int), .int .i64 (L[j0 + 1].at_ : Int)] 32)) := hbr.alloc hz _
          clear hgd hET hE1 hen hprev hC1 hk hkn haf
          generalize L[j0 + 1] = x at *
          generalize L[j0].kind = pk at *
          generalize endL (L.take (j0 + 1)) = pe at *
          have tj : ((j0 : Int) + 1 == 0) = false := by simp; omega
          go_wp2_with fail
          go_roundw
          case rel => exact ⟨j0 + 1 + 1, by omega, by go_num, by rw [HE.out], hbr2⟩
          case measure => simp [Go.RowKit.intOf]; omega
        · rw [hk] at p1
          have hE1 : endW L[j] = L[j].at_ := by unfold endW; rw [if_neg (by omega)]
          have HE := hid (hET.out.trans hE1)
          have hbr2 : Below w2.heap.size w2 (wr.alloc (.cells #[.int .i64 3, .string (bs L[j].text), .int .i64 (L[j].n : Int), .int .i64 (L[j].at_ : Int)] 32)) := hbr.alloc hz _
          clear hgd hET hE1 hC1 hk hkn haf
          generalize L[j] = x at *
          generalize endL (L.take j) = pe at *
          go_wp2_with fail
          go_roundw
          case rel => exact ⟨j + 1, by omega, by go_num, by rw [HE.out], hbr2⟩
          case measure => simp [Go.RowKit.intOf]; omega
        · have hk2 : L[j].kind ≤ 2 := by omega
          have hE1 : endW L[j] = L[j].at_ + L[j].text.length := by unfold endW; rw [if_pos hk2]
          have HE := hid (hET.out.trans hE1)
          obtain ⟨f1, f2, f3⟩ := hgd.plain hk2
          rw [show t.data.toList.length = t.size from rfl] at f1
          have hX := piece t L[j].at_ L[j].text f1 f2
          have hXs : (bs L[j].text).size = L[j].text.length := by show L[j].text.toArray.size = _; simp
          have hname : L[j].kind = 0 → isName (bs L[j].text).data.toList = true := hgd.name
          have kn := hid fun w => IsName_any (bs L[j].text) w (by unfold maxLen; omega)
          rw [← hXs] at f1 f3 hX HE
          clear hgd hET hE1 hC1 hkn haf f2 hXs hk2
          rcases hk with hk | hk
          · rw [hname hk] at kn
            rw [hk] at p1
            have hbr2 : Below w2.heap.size w2 (wr.alloc (.cells #[.int .i64 0, .string (bs L[j].text), .int .i64 (L[j].n : Int), .int .i64 (L[j].at_ : Int)] 32)) := hbr.alloc hz _
            clear hk hname
            generalize L[j] = x at *
            generalize endL (L.take j) = pe at *
            generalize bs x.text = X at *
            have m1 : decide ((t.size : Int) < (x.at_ : Int) + (X.size : Int)) = false := by simp; omega
            have m3 : (x.at_ : Int) + (X.size : Int) ≤ (t.size : Int) := by omega
            have m2 : ((X.size : Int) == 0) = false := by rw [beq_eq_false_iff_ne]; omega
            have hwr : IntKind.i64.wrap ((x.at_ : Int) + (X.size : Int)) = (x.at_ : Int) + (X.size : Int) := wrap_in _ (by omega) (by omega)
            go_wp2_with fail
            go_quiet (fail)
            go_wp2_with fail
            refine (kn.out _).mono ?_
            rintro e w6 ⟨rfl, hb6⟩
            have hb7 : Below w2.heap.size w2 w6 := (below_drewN hbr2 nq).trans (hb6.mono (by simp; omega))
            clear hb6
            go_wp2_with fail
            go_roundw
            case rel => exact ⟨j + 1, by omega, by go_num, by rw [HE.out]; go_num, hb7⟩
            case measure => simp [Go.RowKit.intOf]; omega
          · clear hname kn
            rcases hk with hk | hk
            all_goals
              rw [hk] at p1
              have hbr2 := fun k : Int => hbr.alloc hz (.cells #[.int .i64 k, .string (bs L[j].text), .int .i64 (L[j].n : Int), .int .i64 (L[j].at_ : Int)] 32)
              clear hk
              generalize L[j] = x at *
              generalize endL (L.take j) = pe at *
              generalize bs x.text = X at *
              have m1 : decide ((t.size : Int) < (x.at_ : Int) + (X.size : Int)) = false := by simp; omega
              have m3 : (x.at_ : Int) + (X.size : Int) ≤ (t.size : Int) := by omega
              have m2 : ((X.size : Int) == 0) = false := by rw [beq_eq_false_iff_ne]; omega
              have hwr : IntKind.i64.wrap ((x.at_ : Int) + (X.size : Int)) = (x.at_ : Int) + (X.size : Int) := wrap_in _ (by omega) (by omega)
              go_wp2_with fail
              go_quiet (fail)
              go_wp2_with fail
              go_roundw
              case rel => exact ⟨j + 1, by omega, by go_num, by rw [HE.out]; go_num, below_drewN (hbr2 _) _⟩
              case measure => simp [Go.RowKit.intOf]; omega
      · have he := endL_all L j (by omega)
        rw [he]
        by_cases hE : E = 0
        · subst hE
          have hen := HEND.out rfl
          have hbf := hb2.trans (hbr.mono hb2.size)
          by_cases hL0 : L.length = 0
          · have hl0 : ((L.length : Int) == 0) = true := by rw [hL0]; rfl
            clear he hen
            generalize endL L = pe at *
            go_wp2_with fail
            go_ret
            exact ⟨rfl, hbf⟩
          · obtain ⟨g1, rfl, hC1, hg1'⟩ := H1.out (by intro e; rw [e] at hL0; simp at hL0)
            have hl0 : ((L.length : Int) == 0) = false := by rw [beq_eq_false_iff_ne]; omega
            have hl1 : (1 : Int) ≤ (L.length : Int) := by omega
            obtain ⟨p1, _, _, _⟩ := hC1 wr hbr (L.length - 1) (by omega)
            have hk : L[L.length - 1].kind = 4 := hen _ (by rw [List.getLast?_eq_getElem?]; simp)
            rw [hk] at p1
            clear he hen hC1 hk
            generalize endL L = pe at *
            go_wp2_with fail
            go_ret
            exact ⟨rfl, hbf⟩
        · have hE2 : ((E : Int) != 0) = true := by simp; omega
          obtain ⟨hb3, hb4⟩ := HBAD.out hE
          have q1 : decide (endL L ≤ A) = true := by simp; omega
          have q2 : decide (A < t.size) = true := by simp; omega
          have hbf := hb2.trans (hbr.mono hb2.size)
          clear he hE
          generalize endL L = pe at *
          go_wp2_with fail
          go_ret
          exact ⟨rfl, hbf⟩
  · have hs' : 400 < (t.size : Int) := by omega
    unfold maxLen at hm
    go_enter Tryd.func5, Tryd.ntmps5
    go_wp2_with fail
    refine (kw.out _).mono ?_
    rintro e w1 ⟨rfl, hb1⟩
    go_wp2_with fail
    go_ret
    exact ⟨rfl, hb1⟩

end Go.Proofs.YtonofnjgefoieaaDoor
