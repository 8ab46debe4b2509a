/- The walk of the law RegexWays. -/
import Derived.Test.YtndefngkkikkeaaWn
set_option linter.unusedVariables false
set_option linter.unusedSimpArgs false
namespace Go.Proofs.Ytndefngkkikkeaa
open Go Go.RowKit Go.Lib
open X3 (errOf treeOf parseX mtB orMany cutB)

theorem ways_facts (a b : ByteArray) (ha : a.size ≤ 15) (hb : b.size ≤ 15) : ∃ E0 E1 E2 E3 E4 R0 R1 R2 R3 R4, PC a E0 R0 ∧ PC b E1 R1 ∧ PC (({ data := #[40] } : ByteArray) ++ a ++ { data := #[41, 124, 40] } ++ b ++ { data := #[41] }) E2 R2 ∧ PC (({ data := #[40] } : ByteArray) ++ a ++ { data := #[41, 40] } ++ b ++ { data := #[41] }) E3 R3 ∧ PC (({ data := #[40] } : ByteArray) ++ a ++ { data := #[41, 42] }) E4 R4 ∧ (R0.size ≤ 500 ∧ R1.size ≤ 500 ∧ R2.size ≤ 500 ∧ R3.size ≤ 500 ∧ R4.size ≤ 500) ∧
    (E0 ≠ 0 ∨ (E0 = 0 ∧ (E1 ≠ 0 ∨ (E1 = 0 ∧ (E2 = 4 ∨ (E2 = 0 ∧ R2 = .alt [R0, R1])) ∧ (E3 = 4 ∨ (E3 = 0 ∧ R3 = .cat [R0, R1])) ∧ (E4 = 4 ∨ (E4 = 0 ∧ R4 = .star R0)))))) := by
  obtain ⟨E0, R0, c0, z0, e0, _⟩ := parse_PC a (by unfold maxLen; omega)
  obtain ⟨E1, R1, c1, z1, e1, _⟩ := parse_PC b (by unfold maxLen; omega)
  obtain ⟨E2, R2, c2, z2, _, o2⟩ := parse_PC (({ data := #[40] } : ByteArray) ++ a ++ { data := #[41, 124, 40] } ++ b ++ { data := #[41] }) (by simp only [size_app]; unfold maxLen; have h0 : (⟨#[40]⟩ : ByteArray).size = 1 := rfl; have h1 : (⟨#[41, 124, 40]⟩ : ByteArray).size = 3 := rfl; have h2 : (⟨#[41, 40]⟩ : ByteArray).size = 2 := rfl; have h3 : (⟨#[41]⟩ : ByteArray).size = 1 := rfl; have h4 : (⟨#[41, 42]⟩ : ByteArray).size = 2 := rfl; omega)
  obtain ⟨E3, R3, c3, z3, _, o3⟩ := parse_PC (({ data := #[40] } : ByteArray) ++ a ++ { data := #[41, 40] } ++ b ++ { data := #[41] }) (by simp only [size_app]; unfold maxLen; have h0 : (⟨#[40]⟩ : ByteArray).size = 1 := rfl; have h1 : (⟨#[41, 124, 40]⟩ : ByteArray).size = 3 := rfl; have h2 : (⟨#[41, 40]⟩ : ByteArray).size = 2 := rfl; have h3 : (⟨#[41]⟩ : ByteArray).size = 1 := rfl; have h4 : (⟨#[41, 42]⟩ : ByteArray).size = 2 := rfl; omega)
  obtain ⟨E4, R4, c4, z4, _, o4⟩ := parse_PC (({ data := #[40] } : ByteArray) ++ a ++ { data := #[41, 42] }) (by simp only [size_app]; unfold maxLen; have h0 : (⟨#[40]⟩ : ByteArray).size = 1 := rfl; have h1 : (⟨#[41, 124, 40]⟩ : ByteArray).size = 3 := rfl; have h2 : (⟨#[41, 40]⟩ : ByteArray).size = 2 := rfl; have h3 : (⟨#[41]⟩ : ByteArray).size = 1 := rfl; have h4 : (⟨#[41, 42]⟩ : ByteArray).size = 2 := rfl; omega)
  refine ⟨E0, E1, E2, E3, E4, R0, R1, R2, R3, R4, c0, c1, c2, c3, c4, ⟨z0, z1, z2, z3, z4⟩, ?_⟩
  rcases e0 with ⟨h, _⟩ | ⟨h, hp⟩
  · exact .inl h
  refine .inr ⟨h, ?_⟩
  rcases e1 with ⟨h1, _⟩ | ⟨h1, hp1⟩
  · exact .inl h1
  have hl : (LL a).length ≤ 15 := by rw [ll_len]; omega
  have hl1 : (LL b).length ≤ 15 := by rw [ll_len]; omega
  refine .inr ⟨h1, o2 _ ?_, o3 _ ?_, o4 _ ?_⟩
  · rw [ll_bar]; exact X3.parse_bar hp hp1 (by omega)
  · rw [ll_pair]; exact X3.parse_pair hp hp1 (by omega)
  · rw [ll_sign]; exact X3.parse_sign hp (by omega) (.inl ⟨rfl, rfl⟩)
theorem ll_to (s : ByteArray) (k : Nat) : LL (s.extract 0 k) = (LL s).take k := by
  unfold LL; simp [ByteArray.data_extract]
theorem ll_from (s : ByteArray) (k : Nat) : LL (s.extract k s.size) = (LL s).drop k := by
  unfold LL; simp [ByteArray.data_extract]
  exact List.take_of_length_le (by rw [List.length_drop]; exact Nat.le_refl _)
theorem cut_next (R0 R1 : X3.RX) (s : ByteArray) (k : Nat) : cutB R0 R1 (LL s) (k + 1) = (cutB R0 R1 (LL s) k || (mtB R0 (LL (s.extract 0 k)) && mtB R1 (LL (s.extract k s.size)))) := by
  rw [ll_to, ll_from]; exact X3.cut_succ R0 R1 (LL s) k
set_option maxRecDepth 100000 in
set_option maxHeartbeats 4000000 in
theorem ways_walk (a b s t : ByteArray) (w : World) (ha : a.size ≤ maxLen) (hb : b.size ≤ maxLen) (hs : s.size ≤ maxLen) (ht : t.size ≤ maxLen) : Calls Try.prog 5 #[.string a, .string b, .string s, .string t] w fun e w' => e = .returned (.bool true) ∧ Below w.heap.size w w' := by
  have kW := hid works
  unfold maxLen at ha hb hs ht
  by_cases ha : (15 : Int) < (a.size : Int)
  · go_enter Try.func5, Try.ntmps5
    go_wp2_with fail
    refine (kW.out _).mono ?_
    rintro e w1 ⟨rfl, hb⟩
    have HB0 := hid hb
    clear hb
    go_wp2_with fail
    go_ret
    exact ⟨rfl, HB0.out⟩
  by_cases hb : (15 : Int) < (b.size : Int)
  · go_enter Try.func5, Try.ntmps5
    go_wp2_with fail
    refine (kW.out _).mono ?_
    rintro e w1 ⟨rfl, hb⟩
    have HB0 := hid hb
    clear hb
    go_wp2_with fail
    go_ret
    exact ⟨rfl, HB0.out⟩
  by_cases hs : (12 : Int) < (s.size : Int)
  · go_enter Try.func5, Try.ntmps5
    go_wp2_with fail
    refine (kW.out _).mono ?_
    rintro e w1 ⟨rfl, hb⟩
    have HB0 := hid hb
    clear hb
    go_wp2_with fail
    go_ret
    exact ⟨rfl, HB0.out⟩
  by_cases ht : (12 : Int) < (t.size : Int)
  · go_enter Try.func5, Try.ntmps5
    go_wp2_with fail
    refine (kW.out _).mono ?_
    rintro e w1 ⟨rfl, hb⟩
    have HB0 := hid hb
    clear hb
    go_wp2_with fail
    go_ret
    exact ⟨rfl, HB0.out⟩
  have kM := hid fun (u : ByteArray) (hu : u.size ≤ 1000) => match_MC u hu
  obtain ⟨E0, E1, E2, E3, E4, R0, R1, R2, R3, R4, c0, c1, c2, c3, c4, Z, hE⟩ := ways_facts a b (by omega) (by omega)
  have k0 := hid c0
  have k1 := hid c1
  have k2 := hid c2
  have k3 := hid c3
  have k4 := hid c4
  have Z := hid Z
  have HE := hid hE
  clear c0 c1 c2 c3 c4 hE
  go_enter Try.func5, Try.ntmps5
  go_wp2_with fail
  refine (kW.out _).mono ?_
  rintro e w1 ⟨rfl, hb⟩
  have HB0 := hid hb
  clear hb
  go_wp2_with fail
  refine (k0.out _).mono ?_
  rintro e w2 ⟨xk, xx, xy, xz, xu, xo, xn, xc, rfl, hb, hR⟩
  have HB3 := hid (HB0.out.trans (hb.mono HB0.out.size))
  clear HB0
  clear hb
  obtain ⟨wa3, ea, hx, hba⟩ := box_new hR
  clear hR
  have HB4 := hid (HB3.out.trans (hba.mono HB3.out.size))
  clear HB3
  clear hba
  have HX5 := hid hx
  clear hx
  go_wp2_with fail
  clear ea
  generalize w2.heap.size = bx at *
  rcases HE.out with hE | ⟨hE, hE1 | ⟨hE1, h2, h3, h4⟩⟩
  · have he : (E0 == 0) = false := by rw [beq_eq_false_iff_ne]; omega
    have he2 : (E0 != 0) = true := by rw [bne_iff_ne]; omega
    refine (k1.out _).mono ?_
    rintro e w6 ⟨zk, zx, zy, zz, zu, zo, zn, zc, rfl, hb, hR⟩
    have HX7 := hid (HX5.out.next hb)
    clear HX5
    have HB8 := hid (HB4.out.trans (hb.mono HB4.out.size))
    clear HB4
    clear hb
    obtain ⟨wa8, ea, hx, hba⟩ := box_new hR
    clear hR
    have HX9 := hid (HX7.out.next hba)
    clear HX7
    have HB10 := hid (HB8.out.trans (hba.mono HB8.out.size))
    clear HB8
    clear hba
    have HX11 := hid hx
    clear hx
    go_wp2_with fail
    clear ea
    generalize w6.heap.size = bz at *
    go_ret
    exact ⟨rfl, HB10.out⟩
  · subst hE
    have he : (E1 == 0) = false := by rw [beq_eq_false_iff_ne]; omega
    have he2 : (E1 != 0) = true := by rw [bne_iff_ne]; omega
    refine (k1.out _).mono ?_
    rintro e w6 ⟨zk, zx, zy, zz, zu, zo, zn, zc, rfl, hb, hR⟩
    have HX7 := hid (HX5.out.next hb)
    clear HX5
    have HB8 := hid (HB4.out.trans (hb.mono HB4.out.size))
    clear HB4
    clear hb
    obtain ⟨wa8, ea, hx, hba⟩ := box_new hR
    clear hR
    have HX9 := hid (HX7.out.next hba)
    clear HX7
    have HB10 := hid (HB8.out.trans (hba.mono HB8.out.size))
    clear HB8
    clear hba
    have HX11 := hid hx
    clear hx
    go_wp2_with fail
    clear ea
    generalize w6.heap.size = bz at *
    go_ret
    exact ⟨rfl, HB10.out⟩
  subst hE hE1
  refine (k1.out _).mono ?_
  rintro e w6 ⟨zk, zx, zy, zz, zu, zo, zn, zc, rfl, hb, hR⟩
  have HX7 := hid (HX5.out.next hb)
  clear HX5
  have HB8 := hid (HB4.out.trans (hb.mono HB4.out.size))
  clear HB4
  clear hb
  obtain ⟨wa8, ea, hx, hba⟩ := box_new hR
  clear hR
  have HX9 := hid (HX7.out.next hba)
  clear HX7
  have HB10 := hid (HB8.out.trans (hba.mono HB8.out.size))
  clear HB8
  clear hba
  have HX11 := hid hx
  clear hx
  go_wp2_with fail
  clear ea
  generalize w6.heap.size = bz at *
  refine (k2.out _).mono ?_
  rintro e w12 ⟨mk, mx, my, mz, mu, mo, mn, mc, rfl, hb, hR⟩
  have HX13 := hid (HX9.out.next hb)
  clear HX9
  have HX14 := hid (HX11.out.next hb)
  clear HX11
  have HB15 := hid (HB10.out.trans (hb.mono HB10.out.size))
  clear HB10
  clear hb
  obtain ⟨wa15, ea, hx, hba⟩ := box_new hR
  clear hR
  have HX16 := hid (HX13.out.next hba)
  clear HX13
  have HX17 := hid (HX14.out.next hba)
  clear HX14
  have HB18 := hid (HB15.out.trans (hba.mono HB15.out.size))
  clear HB15
  clear hba
  have HX19 := hid hx
  clear hx
  go_wp2_with fail
  clear ea
  generalize w12.heap.size = bm at *
  refine (k3.out _).mono ?_
  rintro e w20 ⟨ck, cx, cy, cz, cu, co, cn, cc, rfl, hb, hR⟩
  have HX21 := hid (HX16.out.next hb)
  clear HX16
  have HX22 := hid (HX17.out.next hb)
  clear HX17
  have HX23 := hid (HX19.out.next hb)
  clear HX19
  have HB24 := hid (HB18.out.trans (hb.mono HB18.out.size))
  clear HB18
  clear hb
  obtain ⟨wa24, ea, hx, hba⟩ := box_new hR
  clear hR
  have HX25 := hid (HX21.out.next hba)
  clear HX21
  have HX26 := hid (HX22.out.next hba)
  clear HX22
  have HX27 := hid (HX23.out.next hba)
  clear HX23
  have HB28 := hid (HB24.out.trans (hba.mono HB24.out.size))
  clear HB24
  clear hba
  have HX29 := hid hx
  clear hx
  go_wp2_with fail
  clear ea
  generalize w20.heap.size = bc at *
  rcases h2 with h2 | ⟨h2, r2⟩
  · clear HE
    subst h2
    refine (k4.out _).mono ?_
    rintro e w30 ⟨lk, lx, ly, lz, lu, lo, ln, lc, rfl, hb, hR⟩
    have HX31 := hid (HX25.out.next hb)
    clear HX25
    have HX32 := hid (HX26.out.next hb)
    clear HX26
    have HX33 := hid (HX27.out.next hb)
    clear HX27
    have HX34 := hid (HX29.out.next hb)
    clear HX29
    have HB35 := hid (HB28.out.trans (hb.mono HB28.out.size))
    clear HB28
    clear hb
    obtain ⟨wa35, ea, hx, hba⟩ := box_new hR
    clear hR
    have HX36 := hid (HX31.out.next hba)
    clear HX31
    have HX37 := hid (HX32.out.next hba)
    clear HX32
    have HX38 := hid (HX33.out.next hba)
    clear HX33
    have HX39 := hid (HX34.out.next hba)
    clear HX34
    have HB40 := hid (HB35.out.trans (hba.mono HB35.out.size))
    clear HB35
    clear hba
    have HX41 := hid hx
    clear hx
    go_wp2_with fail
    clear ea
    generalize w30.heap.size = bl at *
    go_ret
    exact ⟨rfl, HB40.out⟩
  rcases h3 with h3 | ⟨h3, r3⟩
  · clear HE
    subst h2 h3
    refine (k4.out _).mono ?_
    rintro e w30 ⟨lk, lx, ly, lz, lu, lo, ln, lc, rfl, hb, hR⟩
    have HX31 := hid (HX25.out.next hb)
    clear HX25
    have HX32 := hid (HX26.out.next hb)
    clear HX26
    have HX33 := hid (HX27.out.next hb)
    clear HX27
    have HX34 := hid (HX29.out.next hb)
    clear HX29
    have HB35 := hid (HB28.out.trans (hb.mono HB28.out.size))
    clear HB28
    clear hb
    obtain ⟨wa35, ea, hx, hba⟩ := box_new hR
    clear hR
    have HX36 := hid (HX31.out.next hba)
    clear HX31
    have HX37 := hid (HX32.out.next hba)
    clear HX32
    have HX38 := hid (HX33.out.next hba)
    clear HX33
    have HX39 := hid (HX34.out.next hba)
    clear HX34
    have HB40 := hid (HB35.out.trans (hba.mono HB35.out.size))
    clear HB35
    clear hba
    have HX41 := hid hx
    clear hx
    go_wp2_with fail
    clear ea
    generalize w30.heap.size = bl at *
    go_ret
    exact ⟨rfl, HB40.out⟩
  rcases h4 with h4 | ⟨h4, r4⟩
  · clear HE
    subst h2 h3 h4
    refine (k4.out _).mono ?_
    rintro e w30 ⟨lk, lx, ly, lz, lu, lo, ln, lc, rfl, hb, hR⟩
    have HX31 := hid (HX25.out.next hb)
    clear HX25
    have HX32 := hid (HX26.out.next hb)
    clear HX26
    have HX33 := hid (HX27.out.next hb)
    clear HX27
    have HX34 := hid (HX29.out.next hb)
    clear HX29
    have HB35 := hid (HB28.out.trans (hb.mono HB28.out.size))
    clear HB28
    clear hb
    obtain ⟨wa35, ea, hx, hba⟩ := box_new hR
    clear hR
    have HX36 := hid (HX31.out.next hba)
    clear HX31
    have HX37 := hid (HX32.out.next hba)
    clear HX32
    have HX38 := hid (HX33.out.next hba)
    clear HX33
    have HX39 := hid (HX34.out.next hba)
    clear HX34
    have HB40 := hid (HB35.out.trans (hba.mono HB35.out.size))
    clear HB35
    clear hba
    have HX41 := hid hx
    clear hx
    go_wp2_with fail
    clear ea
    generalize w30.heap.size = bl at *
    go_ret
    exact ⟨rfl, HB40.out⟩
  subst h2 h3 h4
  clear HE
  have hr2 : mtB R2 (LL s) = (mtB R0 (LL s) || mtB R1 (LL s)) := by rw [r2, X3.mtB_bar]
  have hr3 : mtB R3 (LL s) = cutB R0 R1 (LL s) (s.size + 1) := by rw [r3, X3.mtB_pair]; rfl
  have hr4 : (!mtB R0 (LL s) || mtB R4 (LL s)) = true := by rw [r4]; exact X3.mtB_star_one _ _
  have hr5 : (!mtB R4 (LL s) || !mtB R4 (LL t) || mtB R4 (LL (s ++ t))) = true := by rw [r4, ll_app]; exact X3.mtB_star_app _ _ _
  have hr6 : mtB R4 (LL ⟨#[]⟩) = true := by rw [r4]; exact X3.mtB_star0 _
  clear r2 r3 r4
  have Hr := hid (And.intro hr2 (And.intro hr3 (And.intro hr4 (And.intro hr5 hr6))))
  clear hr2 hr3 hr4 hr5 hr6
  refine (k4.out _).mono ?_
  rintro e w30 ⟨lk, lx, ly, lz, lu, lo, ln, lc, rfl, hb, hR⟩
  have HX31 := hid (HX25.out.next hb)
  clear HX25
  have HX32 := hid (HX26.out.next hb)
  clear HX26
  have HX33 := hid (HX27.out.next hb)
  clear HX27
  have HX34 := hid (HX29.out.next hb)
  clear HX29
  have HB35 := hid (HB28.out.trans (hb.mono HB28.out.size))
  clear HB28
  clear hb
  obtain ⟨wa35, ea, hx, hba⟩ := box_new hR
  clear hR
  have HX36 := hid (HX31.out.next hba)
  clear HX31
  have HX37 := hid (HX32.out.next hba)
  clear HX32
  have HX38 := hid (HX33.out.next hba)
  clear HX33
  have HX39 := hid (HX34.out.next hba)
  clear HX34
  have HB40 := hid (HB35.out.trans (hba.mono HB35.out.size))
  clear HB35
  clear hba
  have HX41 := hid hx
  clear hx
  obtain ⟨x_0, x_1, x_2, x_3, x_4, x_5⟩ := HX36.out.cells
  go_wp2_with fail
  clear x_0 x_1 x_2 x_3 x_4 x_5
  clear ea
  generalize w30.heap.size = bl at *
  refine (kM.out s (by omega) _ _ _ HX36.out.2 Z.out.1).mono ?_
  rintro e w42 ⟨rfl, hb⟩
  have HX43 := hid (HX36.out.next hb)
  clear HX36
  have HX44 := hid (HX37.out.next hb)
  clear HX37
  have HX45 := hid (HX38.out.next hb)
  clear HX38
  have HX46 := hid (HX39.out.next hb)
  clear HX39
  have HX47 := hid (HX41.out.next hb)
  clear HX41
  have HB48 := hid (HB40.out.trans (hb.mono HB40.out.size))
  clear HB40
  clear hb
  obtain ⟨z_0, z_1, z_2, z_3, z_4, z_5⟩ := HX44.out.cells
  go_wp2_with fail
  clear z_0 z_1 z_2 z_3 z_4 z_5
  refine (kM.out s (by omega) _ _ _ HX44.out.2 Z.out.2.1).mono ?_
  rintro e w49 ⟨rfl, hb⟩
  have HX50 := hid (HX43.out.next hb)
  clear HX43
  have HX51 := hid (HX44.out.next hb)
  clear HX44
  have HX52 := hid (HX45.out.next hb)
  clear HX45
  have HX53 := hid (HX46.out.next hb)
  clear HX46
  have HX54 := hid (HX47.out.next hb)
  clear HX47
  have HB55 := hid (HB48.out.trans (hb.mono HB48.out.size))
  clear HB48
  clear hb
  go_wp2_with fail
  go_loopg [22, 23, 24, 25] (s.size + 1) (fun gk t22 t23 t24 t25 wr => ∃ k : Nat, Aside (k ≤ s.size + 1 ∧ gk = s.size + 1 - k ∧ t22 = .bool (cutB R0 R1 (LL s) k) ∧ t23 = .int .i64 (k : Int) ∧ Below w49.heap.size w49 wr))
  case atStart => exact ⟨0, Nat.zero_le _, rfl, rfl, rfl, Below.refl _ _⟩
  case round =>
    obtain ⟨k, hst⟩ := hrel
    obtain ⟨hk, hgk, e22, e23, hB⟩ := hst.out
    clear hst
    subst e22 e23
    by_cases hle : k ≤ s.size
    · have HA := hid (cut_next R0 R1 s k)
      generalize cutB R0 R1 (LL s) k = A at *
      have g1 : (k : Int) ≤ (s.size : Int) := by omega
      have g0 : (0 : Int) ≤ (k : Int) := by omega
      have HBr := hid hB
      have Nx := hid (HX50.out.next hB)
      have Nz := hid (HX51.out.next hB)
      have Nm := hid (HX52.out.next hB)
      have Nc := hid (HX53.out.next hB)
      have Nl := hid (HX54.out.next hB)
      clear hB
      go_wp2_with fail
      have z1 : (s.extract 0 k).size ≤ 1000 := by rw [ByteArray.size_extract]; omega
      have z2 : (s.extract k s.size).size ≤ 1000 := by rw [ByteArray.size_extract]; omega
      have kU := hid (kM.out _ z1 R0)
      have kV := hid (kM.out _ z2 R1)
      clear z1 z2
      refine wp_region_below (by kernel_rfl) (by kernel_rfl) ?_
      repeat (first
        | (refine BigFrame.wpQuiet_skip (by rfl) ?_; try simp only [Act.put, List.setIfInBounds_toArray, List.set_cons_zero, List.set_cons_succ])
        | (refine BigFrame.wpQuiet_want (by rfl) (fun K hK => ?_)
           apply Exists.intro
           refine ⟨fun w' hC => ?_, hK _ ?_⟩
           · skip
             obtain ⟨x_0, x_1, x_2, x_3, x_4, x_5⟩ := (Nx.out.next hC).cells
             unfold Oper.quietAt
             go_simp
             first
               | with_reducible rfl
               | done
               | exact below_call hC (Nat.le_refl _) (kU.out _ _ (Nx.out.next hC).2 Z.out.1)
           clear hK K
           try simp only [Act.put, List.setIfInBounds_toArray, List.set_cons_zero, List.set_cons_succ]))
      refine wpQuiet_nil ?_
      intro w' hb
      have HX56 := hid (Nx.out.next hb)
      clear Nx
      have HX57 := hid (Nz.out.next hb)
      clear Nz
      have HX58 := hid (Nm.out.next hb)
      clear Nm
      have HX59 := hid (Nc.out.next hb)
      clear Nc
      have HX60 := hid (Nl.out.next hb)
      clear Nl
      have HB61 := hid (HBr.out.trans (hb.mono HBr.out.size))
      clear HBr
      clear hb
      clear kU
      generalize mtB R0 (LL (s.extract 0 k)) = U at *
      go_wp2_with fail
      refine wp_region_below (by kernel_rfl) (by kernel_rfl) ?_
      repeat (first
        | (refine BigFrame.wpQuiet_skip (by rfl) ?_; try simp only [Act.put, List.setIfInBounds_toArray, List.set_cons_zero, List.set_cons_succ])
        | (refine BigFrame.wpQuiet_want (by rfl) (fun K hK => ?_)
           apply Exists.intro
           refine ⟨fun w' hC => ?_, hK _ ?_⟩
           · skip
             obtain ⟨z_0, z_1, z_2, z_3, z_4, z_5⟩ := (HX57.out.next hC).cells
             unfold Oper.quietAt
             go_simp
             first
               | with_reducible rfl
               | done
               | exact below_call hC (Nat.le_refl _) (kV.out _ _ (HX57.out.next hC).2 Z.out.2.1)
           clear hK K
           try simp only [Act.put, List.setIfInBounds_toArray, List.set_cons_zero, List.set_cons_succ]))
      refine wpQuiet_nil ?_
      intro w' hb
      have HX62 := hid (HX56.out.next hb)
      clear HX56
      have HX63 := hid (HX57.out.next hb)
      clear HX57
      have HX64 := hid (HX58.out.next hb)
      clear HX58
      have HX65 := hid (HX59.out.next hb)
      clear HX59
      have HX66 := hid (HX60.out.next hb)
      clear HX60
      have HB67 := hid (HB61.out.trans (hb.mono HB61.out.size))
      clear HB61
      clear hb
      clear kV
      generalize mtB R1 (LL (s.extract k s.size)) = V at *
      cases A
      · cases U
        · go_wp2_with fail
          go_roundg (s.size + 1 - (k + 1))
          case measure => omega
          case rel => exact ⟨k + 1, by omega, rfl, by rw [HA.out]; rfl, rfl, HB67.out⟩
        · go_wp2_with fail
          go_roundg (s.size + 1 - (k + 1))
          case measure => omega
          case rel => exact ⟨k + 1, by omega, rfl, by rw [HA.out]; rfl, rfl, HB67.out⟩
      · go_wp2_with fail
        go_roundg (s.size + 1 - (k + 1))
        case measure => omega
        case rel => exact ⟨k + 1, by omega, rfl, by rw [HA.out]; rfl, rfl, HB67.out⟩
    · obtain rfl : k = s.size + 1 := by omega
      have g1 : ¬ (((s.size + 1 : Nat) : Int) ≤ (s.size : Int)) := by omega
      have HX56 := hid (HX50.out.next hB)
      clear HX50
      have HX57 := hid (HX51.out.next hB)
      clear HX51
      have HX58 := hid (HX52.out.next hB)
      clear HX52
      have HX59 := hid (HX53.out.next hB)
      clear HX53
      have HX60 := hid (HX54.out.next hB)
      clear HX54
      have HB61 := hid (HB55.out.trans (hB.mono HB55.out.size))
      clear HB55
      clear hB
      obtain ⟨hr2, hr3, hr4, hr5, hr6⟩ := Hr.out
      clear Hr
      rw [← hr3]
      have kM2 := hid (kM.out s (by omega) R2)
      rw [hr2] at kM2
      have kM3 := hid (kM.out s (by omega) R3)
      have kM4 := hid (kM.out s (by omega) R4)
      have kM5 := hid (kM.out t (by omega) R4)
      have kM6 := hid (kM.out (s ++ t) (by rw [size_app]; omega) R4)
      have kM7 := hid (kM.out ⟨#[]⟩ (by decide) R4)
      rw [hr6] at kM7
      clear hr2 hr3 hr6 kM k0 k1 k2 k3 k4 kW
      generalize mtB R0 (LL s) = P at *
      generalize mtB R1 (LL s) = Q at *
      generalize mtB R3 (LL s) = C at *
      generalize mtB R4 (LL s) = ST at *
      generalize mtB R4 (LL t) = TT at *
      generalize mtB R4 (LL (s ++ t)) = UU at *
      cases P
      · cases ST
        · rw [Bool.false_or] at kM2
          clear hr4
          obtain ⟨l_0, l_1, l_2, l_3, l_4, l_5⟩ := HX60.out.cells
          go_wp2_with fail
          clear l_0 l_1 l_2 l_3 l_4 l_5
          refine (kM4.out _ _ HX60.out.2 Z.out.2.2.2.2).mono ?_
          rintro e w62 ⟨rfl, hb⟩
          have HX63 := hid (HX56.out.next hb)
          clear HX56
          have HX64 := hid (HX57.out.next hb)
          clear HX57
          have HX65 := hid (HX58.out.next hb)
          clear HX58
          have HX66 := hid (HX59.out.next hb)
          clear HX59
          have HX67 := hid (HX60.out.next hb)
          clear HX60
          have HB68 := hid (HB61.out.trans (hb.mono HB61.out.size))
          clear HB61
          clear hb
          obtain ⟨l_0, l_1, l_2, l_3, l_4, l_5⟩ := HX67.out.cells
          go_wp2_with fail
          clear l_0 l_1 l_2 l_3 l_4 l_5
          refine (kM5.out _ _ HX67.out.2 Z.out.2.2.2.2).mono ?_
          rintro e w69 ⟨rfl, hb⟩
          have HX70 := hid (HX63.out.next hb)
          clear HX63
          have HX71 := hid (HX64.out.next hb)
          clear HX64
          have HX72 := hid (HX65.out.next hb)
          clear HX65
          have HX73 := hid (HX66.out.next hb)
          clear HX66
          have HX74 := hid (HX67.out.next hb)
          clear HX67
          have HB75 := hid (HB68.out.trans (hb.mono HB68.out.size))
          clear HB68
          clear hb
          obtain ⟨m_0, m_1, m_2, m_3, m_4, m_5⟩ := HX72.out.cells
          go_wp2_with fail
          clear m_0 m_1 m_2 m_3 m_4 m_5
          refine (kM2.out _ _ HX72.out.2 Z.out.2.2.1).mono ?_
          rintro e w76 ⟨rfl, hb⟩
          have HX77 := hid (HX70.out.next hb)
          clear HX70
          have HX78 := hid (HX71.out.next hb)
          clear HX71
          have HX79 := hid (HX72.out.next hb)
          clear HX72
          have HX80 := hid (HX73.out.next hb)
          clear HX73
          have HX81 := hid (HX74.out.next hb)
          clear HX74
          have HB82 := hid (HB75.out.trans (hb.mono HB75.out.size))
          clear HB75
          clear hb
          obtain ⟨c_0, c_1, c_2, c_3, c_4, c_5⟩ := HX80.out.cells
          go_wp2_with fail
          clear c_0 c_1 c_2 c_3 c_4 c_5
          refine (kM3.out _ _ HX80.out.2 Z.out.2.2.2.1).mono ?_
          rintro e w83 ⟨rfl, hb⟩
          have HX84 := hid (HX77.out.next hb)
          clear HX77
          have HX85 := hid (HX78.out.next hb)
          clear HX78
          have HX86 := hid (HX79.out.next hb)
          clear HX79
          have HX87 := hid (HX80.out.next hb)
          clear HX80
          have HX88 := hid (HX81.out.next hb)
          clear HX81
          have HB89 := hid (HB82.out.trans (hb.mono HB82.out.size))
          clear HB82
          clear hb
          obtain ⟨l_0, l_1, l_2, l_3, l_4, l_5⟩ := HX88.out.cells
          go_wp2_with fail
          clear l_0 l_1 l_2 l_3 l_4 l_5
          refine (kM7.out _ _ HX88.out.2 Z.out.2.2.2.2).mono ?_
          rintro e w90 ⟨rfl, hb⟩
          have HX91 := hid (HX84.out.next hb)
          clear HX84
          have HX92 := hid (HX85.out.next hb)
          clear HX85
          have HX93 := hid (HX86.out.next hb)
          clear HX86
          have HX94 := hid (HX87.out.next hb)
          clear HX87
          have HX95 := hid (HX88.out.next hb)
          clear HX88
          have HB96 := hid (HB89.out.trans (hb.mono HB89.out.size))
          clear HB89
          clear hb
          go_wp2_with fail
          go_ret
          exact ⟨rfl, HB96.out⟩
        · cases TT
          · rw [Bool.false_or] at kM2
            clear hr4
            obtain ⟨l_0, l_1, l_2, l_3, l_4, l_5⟩ := HX60.out.cells
            go_wp2_with fail
            clear l_0 l_1 l_2 l_3 l_4 l_5
            refine (kM4.out _ _ HX60.out.2 Z.out.2.2.2.2).mono ?_
            rintro e w62 ⟨rfl, hb⟩
            have HX63 := hid (HX56.out.next hb)
            clear HX56
            have HX64 := hid (HX57.out.next hb)
            clear HX57
            have HX65 := hid (HX58.out.next hb)
            clear HX58
            have HX66 := hid (HX59.out.next hb)
            clear HX59
            have HX67 := hid (HX60.out.next hb)
            clear HX60
            have HB68 := hid (HB61.out.trans (hb.mono HB61.out.size))
            clear HB61
            clear hb
            obtain ⟨l_0, l_1, l_2, l_3, l_4, l_5⟩ := HX67.out.cells
            go_wp2_with fail
            clear l_0 l_1 l_2 l_3 l_4 l_5
            refine (kM5.out _ _ HX67.out.2 Z.out.2.2.2.2).mono ?_
            rintro e w69 ⟨rfl, hb⟩
            have HX70 := hid (HX63.out.next hb)
            clear HX63
            have HX71 := hid (HX64.out.next hb)
            clear HX64
            have HX72 := hid (HX65.out.next hb)
            clear HX65
            have HX73 := hid (HX66.out.next hb)
            clear HX66
            have HX74 := hid (HX67.out.next hb)
            clear HX67
            have HB75 := hid (HB68.out.trans (hb.mono HB68.out.size))
            clear HB68
            clear hb
            obtain ⟨m_0, m_1, m_2, m_3, m_4, m_5⟩ := HX72.out.cells
            go_wp2_with fail
            clear m_0 m_1 m_2 m_3 m_4 m_5
            refine (kM2.out _ _ HX72.out.2 Z.out.2.2.1).mono ?_
            rintro e w76 ⟨rfl, hb⟩
            have HX77 := hid (HX70.out.next hb)
            clear HX70
            have HX78 := hid (HX71.out.next hb)
            clear HX71
            have HX79 := hid (HX72.out.next hb)
            clear HX72
            have HX80 := hid (HX73.out.next hb)
            clear HX73
            have HX81 := hid (HX74.out.next hb)
            clear HX74
            have HB82 := hid (HB75.out.trans (hb.mono HB75.out.size))
            clear HB75
            clear hb
            obtain ⟨c_0, c_1, c_2, c_3, c_4, c_5⟩ := HX80.out.cells
            go_wp2_with fail
            clear c_0 c_1 c_2 c_3 c_4 c_5
            refine (kM3.out _ _ HX80.out.2 Z.out.2.2.2.1).mono ?_
            rintro e w83 ⟨rfl, hb⟩
            have HX84 := hid (HX77.out.next hb)
            clear HX77
            have HX85 := hid (HX78.out.next hb)
            clear HX78
            have HX86 := hid (HX79.out.next hb)
            clear HX79
            have HX87 := hid (HX80.out.next hb)
            clear HX80
            have HX88 := hid (HX81.out.next hb)
            clear HX81
            have HB89 := hid (HB82.out.trans (hb.mono HB82.out.size))
            clear HB82
            clear hb
            obtain ⟨l_0, l_1, l_2, l_3, l_4, l_5⟩ := HX88.out.cells
            go_wp2_with fail
            clear l_0 l_1 l_2 l_3 l_4 l_5
            refine (kM7.out _ _ HX88.out.2 Z.out.2.2.2.2).mono ?_
            rintro e w90 ⟨rfl, hb⟩
            have HX91 := hid (HX84.out.next hb)
            clear HX84
            have HX92 := hid (HX85.out.next hb)
            clear HX85
            have HX93 := hid (HX86.out.next hb)
            clear HX86
            have HX94 := hid (HX87.out.next hb)
            clear HX87
            have HX95 := hid (HX88.out.next hb)
            clear HX88
            have HB96 := hid (HB89.out.trans (hb.mono HB89.out.size))
            clear HB89
            clear hb
            go_wp2_with fail
            go_ret
            exact ⟨rfl, HB96.out⟩
          · rw [Bool.false_or] at kM2
            have hr5 : UU = true := hr5
            subst hr5
            clear hr4
            obtain ⟨l_0, l_1, l_2, l_3, l_4, l_5⟩ := HX60.out.cells
            go_wp2_with fail
            clear l_0 l_1 l_2 l_3 l_4 l_5
            refine (kM4.out _ _ HX60.out.2 Z.out.2.2.2.2).mono ?_
            rintro e w62 ⟨rfl, hb⟩
            have HX63 := hid (HX56.out.next hb)
            clear HX56
            have HX64 := hid (HX57.out.next hb)
            clear HX57
            have HX65 := hid (HX58.out.next hb)
            clear HX58
            have HX66 := hid (HX59.out.next hb)
            clear HX59
            have HX67 := hid (HX60.out.next hb)
            clear HX60
            have HB68 := hid (HB61.out.trans (hb.mono HB61.out.size))
            clear HB61
            clear hb
            obtain ⟨l_0, l_1, l_2, l_3, l_4, l_5⟩ := HX67.out.cells
            go_wp2_with fail
            clear l_0 l_1 l_2 l_3 l_4 l_5
            refine (kM5.out _ _ HX67.out.2 Z.out.2.2.2.2).mono ?_
            rintro e w69 ⟨rfl, hb⟩
            have HX70 := hid (HX63.out.next hb)
            clear HX63
            have HX71 := hid (HX64.out.next hb)
            clear HX64
            have HX72 := hid (HX65.out.next hb)
            clear HX65
            have HX73 := hid (HX66.out.next hb)
            clear HX66
            have HX74 := hid (HX67.out.next hb)
            clear HX67
            have HB75 := hid (HB68.out.trans (hb.mono HB68.out.size))
            clear HB68
            clear hb
            obtain ⟨m_0, m_1, m_2, m_3, m_4, m_5⟩ := HX72.out.cells
            go_wp2_with fail
            clear m_0 m_1 m_2 m_3 m_4 m_5
            refine (kM2.out _ _ HX72.out.2 Z.out.2.2.1).mono ?_
            rintro e w76 ⟨rfl, hb⟩
            have HX77 := hid (HX70.out.next hb)
            clear HX70
            have HX78 := hid (HX71.out.next hb)
            clear HX71
            have HX79 := hid (HX72.out.next hb)
            clear HX72
            have HX80 := hid (HX73.out.next hb)
            clear HX73
            have HX81 := hid (HX74.out.next hb)
            clear HX74
            have HB82 := hid (HB75.out.trans (hb.mono HB75.out.size))
            clear HB75
            clear hb
            obtain ⟨c_0, c_1, c_2, c_3, c_4, c_5⟩ := HX80.out.cells
            go_wp2_with fail
            clear c_0 c_1 c_2 c_3 c_4 c_5
            refine (kM3.out _ _ HX80.out.2 Z.out.2.2.2.1).mono ?_
            rintro e w83 ⟨rfl, hb⟩
            have HX84 := hid (HX77.out.next hb)
            clear HX77
            have HX85 := hid (HX78.out.next hb)
            clear HX78
            have HX86 := hid (HX79.out.next hb)
            clear HX79
            have HX87 := hid (HX80.out.next hb)
            clear HX80
            have HX88 := hid (HX81.out.next hb)
            clear HX81
            have HB89 := hid (HB82.out.trans (hb.mono HB82.out.size))
            clear HB82
            clear hb
            obtain ⟨l_0, l_1, l_2, l_3, l_4, l_5⟩ := HX88.out.cells
            go_wp2_with fail
            clear l_0 l_1 l_2 l_3 l_4 l_5
            refine (kM6.out _ _ HX88.out.2 Z.out.2.2.2.2).mono ?_
            rintro e w90 ⟨rfl, hb⟩
            have HX91 := hid (HX84.out.next hb)
            clear HX84
            have HX92 := hid (HX85.out.next hb)
            clear HX85
            have HX93 := hid (HX86.out.next hb)
            clear HX86
            have HX94 := hid (HX87.out.next hb)
            clear HX87
            have HX95 := hid (HX88.out.next hb)
            clear HX88
            have HB96 := hid (HB89.out.trans (hb.mono HB89.out.size))
            clear HB89
            clear hb
            obtain ⟨l_0, l_1, l_2, l_3, l_4, l_5⟩ := HX95.out.cells
            go_wp2_with fail
            clear l_0 l_1 l_2 l_3 l_4 l_5
            refine (kM7.out _ _ HX95.out.2 Z.out.2.2.2.2).mono ?_
            rintro e w97 ⟨rfl, hb⟩
            have HX98 := hid (HX91.out.next hb)
            clear HX91
            have HX99 := hid (HX92.out.next hb)
            clear HX92
            have HX100 := hid (HX93.out.next hb)
            clear HX93
            have HX101 := hid (HX94.out.next hb)
            clear HX94
            have HX102 := hid (HX95.out.next hb)
            clear HX95
            have HB103 := hid (HB96.out.trans (hb.mono HB96.out.size))
            clear HB96
            clear hb
            go_wp2_with fail
            go_ret
            exact ⟨rfl, HB103.out⟩
      · cases ST
        · cases hr4
        · cases TT
          · rw [Bool.true_or] at kM2
            clear hr4
            obtain ⟨l_0, l_1, l_2, l_3, l_4, l_5⟩ := HX60.out.cells
            go_wp2_with fail
            clear l_0 l_1 l_2 l_3 l_4 l_5
            refine (kM4.out _ _ HX60.out.2 Z.out.2.2.2.2).mono ?_
            rintro e w62 ⟨rfl, hb⟩
            have HX63 := hid (HX56.out.next hb)
            clear HX56
            have HX64 := hid (HX57.out.next hb)
            clear HX57
            have HX65 := hid (HX58.out.next hb)
            clear HX58
            have HX66 := hid (HX59.out.next hb)
            clear HX59
            have HX67 := hid (HX60.out.next hb)
            clear HX60
            have HB68 := hid (HB61.out.trans (hb.mono HB61.out.size))
            clear HB61
            clear hb
            obtain ⟨l_0, l_1, l_2, l_3, l_4, l_5⟩ := HX67.out.cells
            go_wp2_with fail
            clear l_0 l_1 l_2 l_3 l_4 l_5
            refine (kM5.out _ _ HX67.out.2 Z.out.2.2.2.2).mono ?_
            rintro e w69 ⟨rfl, hb⟩
            have HX70 := hid (HX63.out.next hb)
            clear HX63
            have HX71 := hid (HX64.out.next hb)
            clear HX64
            have HX72 := hid (HX65.out.next hb)
            clear HX65
            have HX73 := hid (HX66.out.next hb)
            clear HX66
            have HX74 := hid (HX67.out.next hb)
            clear HX67
            have HB75 := hid (HB68.out.trans (hb.mono HB68.out.size))
            clear HB68
            clear hb
            obtain ⟨m_0, m_1, m_2, m_3, m_4, m_5⟩ := HX72.out.cells
            go_wp2_with fail
            clear m_0 m_1 m_2 m_3 m_4 m_5
            refine (kM2.out _ _ HX72.out.2 Z.out.2.2.1).mono ?_
            rintro e w76 ⟨rfl, hb⟩
            have HX77 := hid (HX70.out.next hb)
            clear HX70
            have HX78 := hid (HX71.out.next hb)
            clear HX71
            have HX79 := hid (HX72.out.next hb)
            clear HX72
            have HX80 := hid (HX73.out.next hb)
            clear HX73
            have HX81 := hid (HX74.out.next hb)
            clear HX74
            have HB82 := hid (HB75.out.trans (hb.mono HB75.out.size))
            clear HB75
            clear hb
            obtain ⟨c_0, c_1, c_2, c_3, c_4, c_5⟩ := HX80.out.cells
            go_wp2_with fail
            clear c_0 c_1 c_2 c_3 c_4 c_5
            refine (kM3.out _ _ HX80.out.2 Z.out.2.2.2.1).mono ?_
            rintro e w83 ⟨rfl, hb⟩
            have HX84 := hid (HX77.out.next hb)
            clear HX77
            have HX85 := hid (HX78.out.next hb)
            clear HX78
            have HX86 := hid (HX79.out.next hb)
            clear HX79
            have HX87 := hid (HX80.out.next hb)
            clear HX80
            have HX88 := hid (HX81.out.next hb)
            clear HX81
            have HB89 := hid (HB82.out.trans (hb.mono HB82.out.size))
            clear HB82
            clear hb
            obtain ⟨l_0, l_1, l_2, l_3, l_4, l_5⟩ := HX88.out.cells
            go_wp2_with fail
            clear l_0 l_1 l_2 l_3 l_4 l_5
            refine (kM7.out _ _ HX88.out.2 Z.out.2.2.2.2).mono ?_
            rintro e w90 ⟨rfl, hb⟩
            have HX91 := hid (HX84.out.next hb)
            clear HX84
            have HX92 := hid (HX85.out.next hb)
            clear HX85
            have HX93 := hid (HX86.out.next hb)
            clear HX86
            have HX94 := hid (HX87.out.next hb)
            clear HX87
            have HX95 := hid (HX88.out.next hb)
            clear HX88
            have HB96 := hid (HB89.out.trans (hb.mono HB89.out.size))
            clear HB89
            clear hb
            go_wp2_with fail
            go_ret
            exact ⟨rfl, HB96.out⟩
          · rw [Bool.true_or] at kM2
            have hr5 : UU = true := hr5
            subst hr5
            clear hr4
            obtain ⟨l_0, l_1, l_2, l_3, l_4, l_5⟩ := HX60.out.cells
            go_wp2_with fail
            clear l_0 l_1 l_2 l_3 l_4 l_5
            refine (kM4.out _ _ HX60.out.2 Z.out.2.2.2.2).mono ?_
            rintro e w62 ⟨rfl, hb⟩
            have HX63 := hid (HX56.out.next hb)
            clear HX56
            have HX64 := hid (HX57.out.next hb)
            clear HX57
            have HX65 := hid (HX58.out.next hb)
            clear HX58
            have HX66 := hid (HX59.out.next hb)
            clear HX59
            have HX67 := hid (HX60.out.next hb)
            clear HX60
            have HB68 := hid (HB61.out.trans (hb.mono HB61.out.size))
            clear HB61
            clear hb
            obtain ⟨l_0, l_1, l_2, l_3, l_4, l_5⟩ := HX67.out.cells
            go_wp2_with fail
            clear l_0 l_1 l_2 l_3 l_4 l_5
            refine (kM5.out _ _ HX67.out.2 Z.out.2.2.2.2).mono ?_
            rintro e w69 ⟨rfl, hb⟩
            have HX70 := hid (HX63.out.next hb)
            clear HX63
            have HX71 := hid (HX64.out.next hb)
            clear HX64
            have HX72 := hid (HX65.out.next hb)
            clear HX65
            have HX73 := hid (HX66.out.next hb)
            clear HX66
            have HX74 := hid (HX67.out.next hb)
            clear HX67
            have HB75 := hid (HB68.out.trans (hb.mono HB68.out.size))
            clear HB68
            clear hb
            obtain ⟨m_0, m_1, m_2, m_3, m_4, m_5⟩ := HX72.out.cells
            go_wp2_with fail
            clear m_0 m_1 m_2 m_3 m_4 m_5
            refine (kM2.out _ _ HX72.out.2 Z.out.2.2.1).mono ?_
            rintro e w76 ⟨rfl, hb⟩
            have HX77 := hid (HX70.out.next hb)
            clear HX70
            have HX78 := hid (HX71.out.next hb)
            clear HX71
            have HX79 := hid (HX72.out.next hb)
            clear HX72
            have HX80 := hid (HX73.out.next hb)
            clear HX73
            have HX81 := hid (HX74.out.next hb)
            clear HX74
            have HB82 := hid (HB75.out.trans (hb.mono HB75.out.size))
            clear HB75
            clear hb
            obtain ⟨c_0, c_1, c_2, c_3, c_4, c_5⟩ := HX80.out.cells
            go_wp2_with fail
            clear c_0 c_1 c_2 c_3 c_4 c_5
            refine (kM3.out _ _ HX80.out.2 Z.out.2.2.2.1).mono ?_
            rintro e w83 ⟨rfl, hb⟩
            have HX84 := hid (HX77.out.next hb)
            clear HX77
            have HX85 := hid (HX78.out.next hb)
            clear HX78
            have HX86 := hid (HX79.out.next hb)
            clear HX79
            have HX87 := hid (HX80.out.next hb)
            clear HX80
            have HX88 := hid (HX81.out.next hb)
            clear HX81
            have HB89 := hid (HB82.out.trans (hb.mono HB82.out.size))
            clear HB82
            clear hb
            obtain ⟨l_0, l_1, l_2, l_3, l_4, l_5⟩ := HX88.out.cells
            go_wp2_with fail
            clear l_0 l_1 l_2 l_3 l_4 l_5
            refine (kM6.out _ _ HX88.out.2 Z.out.2.2.2.2).mono ?_
            rintro e w90 ⟨rfl, hb⟩
            have HX91 := hid (HX84.out.next hb)
            clear HX84
            have HX92 := hid (HX85.out.next hb)
            clear HX85
            have HX93 := hid (HX86.out.next hb)
            clear HX86
            have HX94 := hid (HX87.out.next hb)
            clear HX87
            have HX95 := hid (HX88.out.next hb)
            clear HX88
            have HB96 := hid (HB89.out.trans (hb.mono HB89.out.size))
            clear HB89
            clear hb
            obtain ⟨l_0, l_1, l_2, l_3, l_4, l_5⟩ := HX95.out.cells
            go_wp2_with fail
            clear l_0 l_1 l_2 l_3 l_4 l_5
            refine (kM7.out _ _ HX95.out.2 Z.out.2.2.2.2).mono ?_
            rintro e w97 ⟨rfl, hb⟩
            have HX98 := hid (HX91.out.next hb)
            clear HX91
            have HX99 := hid (HX92.out.next hb)
            clear HX92
            have HX100 := hid (HX93.out.next hb)
            clear HX93
            have HX101 := hid (HX94.out.next hb)
            clear HX94
            have HX102 := hid (HX95.out.next hb)
            clear HX95
            have HB103 := hid (HB96.out.trans (hb.mono HB96.out.size))
            clear HB96
            clear hb
            go_wp2_with fail
            go_ret
            exact ⟨rfl, HB103.out⟩
end Go.Proofs.Ytndefngkkikkeaa
