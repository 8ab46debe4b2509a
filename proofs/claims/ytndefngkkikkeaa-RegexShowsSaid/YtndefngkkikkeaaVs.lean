/- The walk of the law RegexShows. -/
import Derived.Test.YtndefngkkikkeaaWm
import Derived.Test.YtndefngkkikkeaaXl
set_option linter.unusedVariables false
set_option linter.unusedSimpArgs false
namespace Go.Proofs.Ytndefngkkikkeaa
open Go Go.RowKit Go.Lib
open X3 (errOf treeOf parseX mtB)
set_option maxRecDepth 100000 in
set_option maxHeartbeats 4000000 in
theorem shows_walk (a s : ByteArray) (w : World) (ha : a.size ≤ maxLen) (hs : s.size ≤ maxLen) : Calls Try.prog 4 #[.string a, .string s] w fun e w' => e = .returned (.bool true) ∧ Below w.heap.size w w' := by
  have kW := hid works
  unfold maxLen at ha hs
  by_cases h1 : (40 : Int) < (a.size : Int)
  · go_enter Try.func4, Try.ntmps4
    go_wp2_with fail
    refine (kW.out _).mono ?_
    rintro e w1 ⟨rfl, hb⟩
    have HB0 := hid hb
    clear hb
    go_wp2_with fail
    go_ret
    exact ⟨rfl, HB0.out⟩
  by_cases h2 : (40 : Int) < (s.size : Int)
  · go_enter Try.func4, Try.ntmps4
    go_wp2_with fail
    refine (kW.out _).mono ?_
    rintro e w1 ⟨rfl, hb⟩
    have HB0 := hid hb
    clear hb
    go_wp2_with fail
    go_ret
    exact ⟨rfl, HB0.out⟩
  have kP := hid (parse_tree a (by unfold maxLen; omega))
  rcases X3.parse_is (LL a) with he | ⟨he, hp⟩
  · have he2 : (((errOf (parseX (LL a)) : Nat) : Int) == 0) = false := by
      rw [beq_eq_false_iff_ne]; omega
    clear he
    go_enter Try.func4, Try.ntmps4
    go_wp2_with fail
    refine (kW.out _).mono ?_
    rintro e w1 ⟨rfl, hb⟩
    have HB0 := hid hb
    clear hb
    go_wp2_with fail
    generalize errOf (parseX (LL a)) = E at *
    refine (kP.out _).mono ?_
    rintro e w2 ⟨rk, rx, ry, rz, ru, ro, rn, rc, rfl, hb, hR⟩
    have HB3 := hid (HB0.out.trans (hb.mono HB0.out.size))
    clear HB0
    clear hb
    have HR := hid hR
    clear hR
    go_wp2_with fail
    obtain ⟨wa3, ea, hx, hba⟩ := box_new HR.out
    clear HR
    have HB4 := hid (HB3.out.trans (hba.mono HB3.out.size))
    clear HB3
    clear hba
    rw [ea]
    clear ea
    generalize w2.heap.size = br at *
    have HX5 := hid hx
    clear hx
    go_wp2_with fail
    go_ret
    exact ⟨rfl, HB4.out⟩
  have hg := X3.tree_good (LL a)
  have hz := X3.tree_size (LL a)
  rw [he] at kP
  clear he hp
  generalize treeOf (parseX (LL a)) = R at *
  have hs' : s.size ≤ 1000 := by omega
  have hz' : R.size ≤ 1000 := by omega
  have kS := hid fun (w : World) (v : Value) (h : RepS (fun g => g < w.heap.size) w R v) => Show_any h (by omega)
  have kM := hid fun (w : World) (v : Value) (h : RepS (fun g => g < w.heap.size) w R v) => match_any _ w R v s h hz' hs'
  have kN := hid fun (w : World) (v : Value) (h : RepS (fun g => g < w.heap.size) w R v) => null_any _ _ _ _ _ (Nat.le_refl _) (by omega) h
  have hgz := hid (And.intro hg hz)
  clear hg hz hz' hs'
  go_enter Try.func4, Try.ntmps4
  go_wp2_with fail
  refine (kW.out _).mono ?_
  rintro e w1 ⟨rfl, hb⟩
  have HB0 := hid hb
  clear hb
  go_wp2_with fail
  refine (kP.out _).mono ?_
  rintro e w2 ⟨rk, rx, ry, rz, ru, ro, rn, rc, rfl, hb, hR⟩
  have HB3 := hid (HB0.out.trans (hb.mono HB0.out.size))
  clear HB0
  clear hb
  have HR := hid hR
  clear hR
  go_wp2_with fail
  obtain ⟨wa3, ea, hx, hba⟩ := box_new HR.out
  clear HR
  have HB4 := hid (HB3.out.trans (hba.mono HB3.out.size))
  clear HB3
  clear hba
  rw [ea]
  clear ea
  generalize w2.heap.size = br at *
  have HX5 := hid hx
  clear hx
  obtain ⟨r_0, r_1, r_2, r_3, r_4, r_5⟩ := HX5.out.cells
  go_wp2_with fail
  clear r_0 r_1 r_2 r_3 r_4 r_5
  refine (kS.out _ _ HX5.out.2).mono ?_
  rintro e w6 ⟨rfl, hb⟩
  have HX7 := hid (HX5.out.next hb)
  clear HX5
  have HB8 := hid (HB4.out.trans (hb.mono HB4.out.size))
  clear HB4
  clear hb
  by_cases h3 : (200 : Int) < ((bs (X3.showX R)).size : Int)
  · go_wp2_with fail
    go_ret
    exact ⟨rfl, HB8.out⟩
  have kQ : Hid (∀ w : World, Calls Try.prog 10 #[.string (bs (X3.showX R))] w fun e w' => ∃ (k x y z u : Int) (o : Option Addr) (n cc : Nat),
      e = .returned (.tuple #[nodeV k x y z u (.slice o n cc), .int .i64 0]) ∧ Below w.heap.size w w' ∧ RepS (fun g => g < w'.heap.size) w' R (nodeV k x y z u (.slice o n cc))) := by
    intro w
    have hl : (X3.showX R).length ≤ 200 := by
      have : (bs (X3.showX R)).size = (X3.showX R).length := rfl
      omega
    have := parse_tree (bs (X3.showX R)) (by have : (bs (X3.showX R)).size = (X3.showX R).length := rfl; unfold maxLen; omega) w
    rw [show LL (bs (X3.showX R)) = X3.showX R from rfl, X3.show_parse hgz.out.1 hgz.out.2 hl] at this
    exact this
  generalize bs (X3.showX R) = T at *
  go_wp2_with fail
  refine (kQ.out _).mono ?_
  rintro e w9 ⟨tk, tx, ty, tz, tu, to, tn, tc, rfl, hb, hR⟩
  have HX10 := hid (HX7.out.next hb)
  clear HX7
  have HB11 := hid (HB8.out.trans (hb.mono HB8.out.size))
  clear HB8
  clear hb
  have HR := hid hR
  clear hR
  go_wp2_with fail
  obtain ⟨wa11, ea, hx, hba⟩ := box_new HR.out
  clear HR
  have HX12 := hid (HX10.out.next hba)
  clear HX10
  have HB13 := hid (HB11.out.trans (hba.mono HB11.out.size))
  clear HB11
  clear hba
  rw [ea]
  clear ea
  generalize w9.heap.size = bt at *
  have HX14 := hid hx
  clear hx
  obtain ⟨t_0, t_1, t_2, t_3, t_4, t_5⟩ := HX14.out.cells
  obtain ⟨r_0, r_1, r_2, r_3, r_4, r_5⟩ := HX12.out.cells
  go_wp2_with fail
  clear t_0 t_1 t_2 t_3 t_4 t_5 r_0 r_1 r_2 r_3 r_4 r_5
  generalize mtB R (LL s) = B at *
  generalize X3.nullX R = C at *
  refine wp_region_below (by kernel_rfl) (by kernel_rfl) ?_
  repeat (first
    | (refine BigFrame.wpQuiet_skip (by rfl) ?_; try simp only [Act.put, List.setIfInBounds_toArray, List.set_cons_zero, List.set_cons_succ])
    | (refine BigFrame.wpQuiet_want (by rfl) (fun K hK => ?_)
       apply Exists.intro
       refine ⟨fun w' hC => ?_, hK _ ?_⟩
       · skip
         obtain ⟨r_0, r_1, r_2, r_3, r_4, r_5⟩ := (HX12.out.next hC).cells
         obtain ⟨t_0, t_1, t_2, t_3, t_4, t_5⟩ := (HX14.out.next hC).cells
         unfold Oper.quietAt
         go_simp
         first
           | with_reducible rfl
           | done
           | exact below_call hC (Nat.le_refl _) (kM.out _ _ (HX14.out.next hC).2)
           | exact below_call hC (Nat.le_refl _) (kM.out _ _ (HX12.out.next hC).2)
           | exact below_call hC (Nat.le_refl _) (kN.out _ _ (HX14.out.next hC).2)
           | exact below_call hC (Nat.le_refl _) (kN.out _ _ (HX12.out.next hC).2)
       clear hK K
       try simp only [Act.put, List.setIfInBounds_toArray, List.set_cons_zero, List.set_cons_succ]))
  refine wpQuiet_nil ?_
  intro w' hb
  have HX15 := hid (HX12.out.next hb)
  clear HX12
  have HX16 := hid (HX14.out.next hb)
  clear HX14
  have HB17 := hid (HB13.out.trans (hb.mono HB13.out.size))
  clear HB13
  clear hb
  go_wp2_with fail
  go_ret
  exact ⟨rfl, HB17.out⟩
end Go.Proofs.Ytndefngkkikkeaa
