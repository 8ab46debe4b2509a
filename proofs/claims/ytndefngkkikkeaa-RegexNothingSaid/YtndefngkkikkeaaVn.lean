/- The walk of the law RegexNothing. -/
import Derived.Test.YtndefngkkikkeaaWn
set_option linter.unusedVariables false
set_option linter.unusedSimpArgs false
namespace Go.Proofs.Ytndefngkkikkeaa
open Go Go.RowKit Go.Lib
open X3 (errOf treeOf parseX mtB orMany)

theorem nothing_facts (a : ByteArray) (ha : a.size ≤ 15) : ∃ E0 E1 E2 E3 R0 R1 R2 R3, PC a E0 R0 ∧ PC (({ data := #[40] } : ByteArray) ++ a ++ { data := #[41, 124, 91, 93] }) E1 R1 ∧ PC (({ data := #[40] } : ByteArray) ++ a ++ { data := #[41, 91, 93] }) E2 R2 ∧ PC (({ data := #[91, 93, 42, 40] } : ByteArray) ++ a ++ { data := #[41, 40, 41] }) E3 R3 ∧ R0.size ≤ 500 ∧ R1.size ≤ 500 ∧ R2.size ≤ 500 ∧ R3.size ≤ 500 ∧
    (E0 ≠ 0 ∨ (E0 = 0 ∧ (E1 = 4 ∨ (E1 = 0 ∧ R1 = .alt [R0, X3.none0])) ∧ (E2 = 4 ∨ (E2 = 0 ∧ R2 = .cat [R0, X3.none0])) ∧ (E3 = 4 ∨ (E3 = 0 ∧ R3 = .cat [.star X3.none0, R0, .empty])))) := by
  obtain ⟨E0, R0, c0, z0, e0, _⟩ := parse_PC a (by unfold maxLen; omega)
  obtain ⟨E1, R1, c1, z1, _, o1⟩ := parse_PC (({ data := #[40] } : ByteArray) ++ a ++ { data := #[41, 124, 91, 93] }) (by simp only [size_app]; unfold maxLen; have h0 : (⟨#[40]⟩ : ByteArray).size = 1 := rfl; have h1 : (⟨#[91, 93, 42, 40]⟩ : ByteArray).size = 4 := rfl; have h2 : (⟨#[41, 124, 91, 93]⟩ : ByteArray).size = 4 := rfl; have h3 : (⟨#[41, 91, 93]⟩ : ByteArray).size = 3 := rfl; have h4 : (⟨#[41, 40, 41]⟩ : ByteArray).size = 3 := rfl; omega)
  obtain ⟨E2, R2, c2, z2, _, o2⟩ := parse_PC (({ data := #[40] } : ByteArray) ++ a ++ { data := #[41, 91, 93] }) (by simp only [size_app]; unfold maxLen; have h0 : (⟨#[40]⟩ : ByteArray).size = 1 := rfl; have h1 : (⟨#[91, 93, 42, 40]⟩ : ByteArray).size = 4 := rfl; have h2 : (⟨#[41, 124, 91, 93]⟩ : ByteArray).size = 4 := rfl; have h3 : (⟨#[41, 91, 93]⟩ : ByteArray).size = 3 := rfl; have h4 : (⟨#[41, 40, 41]⟩ : ByteArray).size = 3 := rfl; omega)
  obtain ⟨E3, R3, c3, z3, _, o3⟩ := parse_PC (({ data := #[91, 93, 42, 40] } : ByteArray) ++ a ++ { data := #[41, 40, 41] }) (by simp only [size_app]; unfold maxLen; have h0 : (⟨#[40]⟩ : ByteArray).size = 1 := rfl; have h1 : (⟨#[91, 93, 42, 40]⟩ : ByteArray).size = 4 := rfl; have h2 : (⟨#[41, 124, 91, 93]⟩ : ByteArray).size = 4 := rfl; have h3 : (⟨#[41, 91, 93]⟩ : ByteArray).size = 3 := rfl; have h4 : (⟨#[41, 40, 41]⟩ : ByteArray).size = 3 := rfl; omega)
  refine ⟨E0, E1, E2, E3, R0, R1, R2, R3, c0, c1, c2, c3, z0, z1, z2, z3, ?_⟩
  rcases e0 with ⟨h, _⟩ | ⟨h, hp⟩
  · exact .inl h
  · have hl : (LL a).length ≤ 100 := by rw [ll_len]; omega
    refine .inr ⟨h, o1 _ ?_, o2 _ ?_, o3 _ ?_⟩
    · rw [ll_bar_none]; exact X3.parse_bar_none hp hl
    · rw [ll_pair_none]; exact X3.parse_pair_none hp hl
    · rw [ll_round]; exact X3.parse_round hp hl
set_option maxRecDepth 100000 in
set_option maxHeartbeats 4000000 in
theorem nothing_walk (a s : ByteArray) (w : World) (ha : a.size ≤ maxLen) (hs : s.size ≤ maxLen) : Calls Try.prog 8 #[.string a, .string s] w fun e w' => e = .returned (.bool true) ∧ Below w.heap.size w w' := by
  have kW := hid works
  unfold maxLen at ha hs
  by_cases h1 : (15 : Int) < (a.size : Int)
  · go_enter Try.func8, Try.ntmps8
    go_wp2_with fail
    refine (kW.out _).mono ?_
    rintro e w1 ⟨rfl, hb⟩
    have HB0 := hid hb
    clear hb
    go_wp2_with fail
    go_ret
    exact ⟨rfl, HB0.out⟩
  by_cases h2 : (12 : Int) < (s.size : Int)
  · go_enter Try.func8, Try.ntmps8
    go_wp2_with fail
    refine (kW.out _).mono ?_
    rintro e w1 ⟨rfl, hb⟩
    have HB0 := hid hb
    clear hb
    go_wp2_with fail
    go_ret
    exact ⟨rfl, HB0.out⟩
  have kM := hid (match_MC s (by omega))
  obtain ⟨E0, E1, E2, E3, R0, R1, R2, R3, c0, c1, c2, c3, z0, z1, z2, z3, hE⟩ := nothing_facts a (by omega)
  have k0 := hid c0
  have k1 := hid c1
  have k2 := hid c2
  have k3 := hid c3
  have Z := hid (And.intro z0 (And.intro z1 (And.intro z2 z3)))
  have HE := hid hE
  clear c0 c1 c2 c3 z0 z1 z2 z3 hE
  go_enter Try.func8, Try.ntmps8
  go_wp2_with fail
  refine (kW.out _).mono ?_
  rintro e w1 ⟨rfl, hb⟩
  have HB0 := hid hb
  clear hb
  go_wp2_with fail
  refine (k0.out _).mono ?_
  rintro e w2 ⟨xk, xx, xy, xz, xu, xo, xn, xc, rfl, hb, hR⟩
  have HB3 := hid (HB0.out.trans (hb.mono HB0.out.size))
  clear HB0
  clear hb
  obtain ⟨wa3, ea, hx, hba⟩ := box_new hR
  clear hR
  have HB4 := hid (HB3.out.trans (hba.mono HB3.out.size))
  clear HB3
  clear hba
  have HX5 := hid hx
  clear hx
  go_wp2_with fail
  clear ea
  generalize w2.heap.size = bx at *
  refine (k1.out _).mono ?_
  rintro e w6 ⟨pk, px, py, pz, pu, po, pn, pc, rfl, hb, hR⟩
  have HX7 := hid (HX5.out.next hb)
  clear HX5
  have HB8 := hid (HB4.out.trans (hb.mono HB4.out.size))
  clear HB4
  clear hb
  obtain ⟨wa8, ea, hx, hba⟩ := box_new hR
  clear hR
  have HX9 := hid (HX7.out.next hba)
  clear HX7
  have HB10 := hid (HB8.out.trans (hba.mono HB8.out.size))
  clear HB8
  clear hba
  have HX11 := hid hx
  clear hx
  go_wp2_with fail
  clear ea
  generalize w6.heap.size = bp at *
  refine (k2.out _).mono ?_
  rintro e w12 ⟨qk, qx, qy, qz, qu, qo, qn, qc, rfl, hb, hR⟩
  have HX13 := hid (HX9.out.next hb)
  clear HX9
  have HX14 := hid (HX11.out.next hb)
  clear HX11
  have HB15 := hid (HB10.out.trans (hb.mono HB10.out.size))
  clear HB10
  clear hb
  obtain ⟨wa15, ea, hx, hba⟩ := box_new hR
  clear hR
  have HX16 := hid (HX13.out.next hba)
  clear HX13
  have HX17 := hid (HX14.out.next hba)
  clear HX14
  have HB18 := hid (HB15.out.trans (hba.mono HB15.out.size))
  clear HB15
  clear hba
  have HX19 := hid hx
  clear hx
  go_wp2_with fail
  clear ea
  generalize w12.heap.size = bq at *
  rcases HE.out with hE | ⟨hE, h1, h2, h3⟩
  · have he : (E0 == 0) = false := by rw [beq_eq_false_iff_ne]; omega
    have he2 : (E0 != 0) = true := by rw [bne_iff_ne]; omega
    refine (k3.out _).mono ?_
    rintro e w20 ⟨tk, tx, ty, tz, tu, to, tn, tc, rfl, hb, hR⟩
    have HX21 := hid (HX16.out.next hb)
    clear HX16
    have HX22 := hid (HX17.out.next hb)
    clear HX17
    have HX23 := hid (HX19.out.next hb)
    clear HX19
    have HB24 := hid (HB18.out.trans (hb.mono HB18.out.size))
    clear HB18
    clear hb
    obtain ⟨wa24, ea, hx, hba⟩ := box_new hR
    clear hR
    have HX25 := hid (HX21.out.next hba)
    clear HX21
    have HX26 := hid (HX22.out.next hba)
    clear HX22
    have HX27 := hid (HX23.out.next hba)
    clear HX23
    have HB28 := hid (HB24.out.trans (hba.mono HB24.out.size))
    clear HB24
    clear hba
    have HX29 := hid hx
    clear hx
    go_wp2_with fail
    clear ea
    generalize w20.heap.size = bt at *
    go_ret
    exact ⟨rfl, HB28.out⟩
  subst hE
  rcases h1 with h1 | ⟨h1, r1⟩
  · clear HE
    subst h1
    refine (k3.out _).mono ?_
    rintro e w20 ⟨tk, tx, ty, tz, tu, to, tn, tc, rfl, hb, hR⟩
    have HX21 := hid (HX16.out.next hb)
    clear HX16
    have HX22 := hid (HX17.out.next hb)
    clear HX17
    have HX23 := hid (HX19.out.next hb)
    clear HX19
    have HB24 := hid (HB18.out.trans (hb.mono HB18.out.size))
    clear HB18
    clear hb
    obtain ⟨wa24, ea, hx, hba⟩ := box_new hR
    clear hR
    have HX25 := hid (HX21.out.next hba)
    clear HX21
    have HX26 := hid (HX22.out.next hba)
    clear HX22
    have HX27 := hid (HX23.out.next hba)
    clear HX23
    have HB28 := hid (HB24.out.trans (hba.mono HB24.out.size))
    clear HB24
    clear hba
    have HX29 := hid hx
    clear hx
    go_wp2_with fail
    clear ea
    generalize w20.heap.size = bt at *
    go_ret
    exact ⟨rfl, HB28.out⟩
  rcases h2 with h2 | ⟨h2, r2⟩
  · clear HE
    subst h1 h2
    refine (k3.out _).mono ?_
    rintro e w20 ⟨tk, tx, ty, tz, tu, to, tn, tc, rfl, hb, hR⟩
    have HX21 := hid (HX16.out.next hb)
    clear HX16
    have HX22 := hid (HX17.out.next hb)
    clear HX17
    have HX23 := hid (HX19.out.next hb)
    clear HX19
    have HB24 := hid (HB18.out.trans (hb.mono HB18.out.size))
    clear HB18
    clear hb
    obtain ⟨wa24, ea, hx, hba⟩ := box_new hR
    clear hR
    have HX25 := hid (HX21.out.next hba)
    clear HX21
    have HX26 := hid (HX22.out.next hba)
    clear HX22
    have HX27 := hid (HX23.out.next hba)
    clear HX23
    have HB28 := hid (HB24.out.trans (hba.mono HB24.out.size))
    clear HB24
    clear hba
    have HX29 := hid hx
    clear hx
    go_wp2_with fail
    clear ea
    generalize w20.heap.size = bt at *
    go_ret
    exact ⟨rfl, HB28.out⟩
  rcases h3 with h3 | ⟨h3, r3⟩
  · clear HE
    subst h1 h2 h3
    refine (k3.out _).mono ?_
    rintro e w20 ⟨tk, tx, ty, tz, tu, to, tn, tc, rfl, hb, hR⟩
    have HX21 := hid (HX16.out.next hb)
    clear HX16
    have HX22 := hid (HX17.out.next hb)
    clear HX17
    have HX23 := hid (HX19.out.next hb)
    clear HX19
    have HB24 := hid (HB18.out.trans (hb.mono HB18.out.size))
    clear HB18
    clear hb
    obtain ⟨wa24, ea, hx, hba⟩ := box_new hR
    clear hR
    have HX25 := hid (HX21.out.next hba)
    clear HX21
    have HX26 := hid (HX22.out.next hba)
    clear HX22
    have HX27 := hid (HX23.out.next hba)
    clear HX23
    have HB28 := hid (HB24.out.trans (hba.mono HB24.out.size))
    clear HB24
    clear hba
    have HX29 := hid hx
    clear hx
    go_wp2_with fail
    clear ea
    generalize w20.heap.size = bt at *
    go_ret
    exact ⟨rfl, HB28.out⟩
  subst h1 h2 h3
  have hr1 : mtB R1 (LL s) = mtB R0 (LL s) := by rw [r1, X3.mtB_bar_none]
  have hr2 : mtB R2 (LL s) = false := by rw [r2, X3.mtB_pair_none]
  have hr3 : mtB R3 (LL s) = mtB R0 (LL s) := by rw [r3, X3.mtB_round]
  clear r1 r2 r3 HE
  have kM0 := hid (fun w v h => kM.out R0 w v h Z.out.1)
  have kM1 := hid (fun w v h => hr1 ▸ kM.out R1 w v h Z.out.2.1)
  have kM2 := hid (fun w v h => hr2 ▸ kM.out R2 w v h Z.out.2.2.1)
  have kM3 := hid (fun w v h => hr3 ▸ kM.out R3 w v h Z.out.2.2.2)
  generalize mtB R0 (LL s) = B0 at *
  clear hr1 hr2 hr3 kM
  refine (k3.out _).mono ?_
  rintro e w20 ⟨tk, tx, ty, tz, tu, to, tn, tc, rfl, hb, hR⟩
  have HX21 := hid (HX16.out.next hb)
  clear HX16
  have HX22 := hid (HX17.out.next hb)
  clear HX17
  have HX23 := hid (HX19.out.next hb)
  clear HX19
  have HB24 := hid (HB18.out.trans (hb.mono HB18.out.size))
  clear HB18
  clear hb
  obtain ⟨wa24, ea, hx, hba⟩ := box_new hR
  clear hR
  have HX25 := hid (HX21.out.next hba)
  clear HX21
  have HX26 := hid (HX22.out.next hba)
  clear HX22
  have HX27 := hid (HX23.out.next hba)
  clear HX23
  have HB28 := hid (HB24.out.trans (hba.mono HB24.out.size))
  clear HB24
  clear hba
  have HX29 := hid hx
  clear hx
  obtain ⟨x_0, x_1, x_2, x_3, x_4, x_5⟩ := HX25.out.cells
  go_wp2_with fail
  clear x_0 x_1 x_2 x_3 x_4 x_5
  clear ea
  generalize w20.heap.size = bt at *
  refine (kM0.out _ _ HX25.out.2).mono ?_
  rintro e w30 ⟨rfl, hb⟩
  have HX31 := hid (HX25.out.next hb)
  clear HX25
  have HX32 := hid (HX26.out.next hb)
  clear HX26
  have HX33 := hid (HX27.out.next hb)
  clear HX27
  have HX34 := hid (HX29.out.next hb)
  clear HX29
  have HB35 := hid (HB28.out.trans (hb.mono HB28.out.size))
  clear HB28
  clear hb
  obtain ⟨p_0, p_1, p_2, p_3, p_4, p_5⟩ := HX32.out.cells
  obtain ⟨q_0, q_1, q_2, q_3, q_4, q_5⟩ := HX33.out.cells
  obtain ⟨t_0, t_1, t_2, t_3, t_4, t_5⟩ := HX34.out.cells
  go_wp2_with fail
  clear p_0 p_1 p_2 p_3 p_4 p_5 q_0 q_1 q_2 q_3 q_4 q_5 t_0 t_1 t_2 t_3 t_4 t_5
  refine (kM1.out _ _ HX32.out.2).mono ?_
  rintro e w36 ⟨rfl, hb⟩
  have HX37 := hid (HX31.out.next hb)
  clear HX31
  have HX38 := hid (HX32.out.next hb)
  clear HX32
  have HX39 := hid (HX33.out.next hb)
  clear HX33
  have HX40 := hid (HX34.out.next hb)
  clear HX34
  have HB41 := hid (HB35.out.trans (hb.mono HB35.out.size))
  clear HB35
  clear hb
  obtain ⟨p_0, p_1, p_2, p_3, p_4, p_5⟩ := HX38.out.cells
  obtain ⟨q_0, q_1, q_2, q_3, q_4, q_5⟩ := HX39.out.cells
  obtain ⟨t_0, t_1, t_2, t_3, t_4, t_5⟩ := HX40.out.cells
  go_wp2_with fail
  clear p_0 p_1 p_2 p_3 p_4 p_5 q_0 q_1 q_2 q_3 q_4 q_5 t_0 t_1 t_2 t_3 t_4 t_5
  refine (kM2.out _ _ HX39.out.2).mono ?_
  rintro e w42 ⟨rfl, hb⟩
  have HX43 := hid (HX37.out.next hb)
  clear HX37
  have HX44 := hid (HX38.out.next hb)
  clear HX38
  have HX45 := hid (HX39.out.next hb)
  clear HX39
  have HX46 := hid (HX40.out.next hb)
  clear HX40
  have HB47 := hid (HB41.out.trans (hb.mono HB41.out.size))
  clear HB41
  clear hb
  obtain ⟨p_0, p_1, p_2, p_3, p_4, p_5⟩ := HX44.out.cells
  obtain ⟨q_0, q_1, q_2, q_3, q_4, q_5⟩ := HX45.out.cells
  obtain ⟨t_0, t_1, t_2, t_3, t_4, t_5⟩ := HX46.out.cells
  go_wp2_with fail
  clear p_0 p_1 p_2 p_3 p_4 p_5 q_0 q_1 q_2 q_3 q_4 q_5 t_0 t_1 t_2 t_3 t_4 t_5
  refine (kM3.out _ _ HX46.out.2).mono ?_
  rintro e w48 ⟨rfl, hb⟩
  have HX49 := hid (HX43.out.next hb)
  clear HX43
  have HX50 := hid (HX44.out.next hb)
  clear HX44
  have HX51 := hid (HX45.out.next hb)
  clear HX45
  have HX52 := hid (HX46.out.next hb)
  clear HX46
  have HB53 := hid (HB47.out.trans (hb.mono HB47.out.size))
  clear HB47
  clear hb
  obtain ⟨p_0, p_1, p_2, p_3, p_4, p_5⟩ := HX50.out.cells
  obtain ⟨q_0, q_1, q_2, q_3, q_4, q_5⟩ := HX51.out.cells
  obtain ⟨t_0, t_1, t_2, t_3, t_4, t_5⟩ := HX52.out.cells
  go_wp2_with fail
  clear p_0 p_1 p_2 p_3 p_4 p_5 q_0 q_1 q_2 q_3 q_4 q_5 t_0 t_1 t_2 t_3 t_4 t_5
  go_ret
  exact ⟨rfl, HB53.out⟩
end Go.Proofs.Ytndefngkkikkeaa
