/- The walk of the law RegexRange. -/
import Derived.Test.YtndefngkkikkeaaWn
import Derived.Test.YtndefngkkikkeaaXn
import Derived.Laws.IdiomStrings
set_option linter.unusedVariables false
set_option linter.unusedSimpArgs false
namespace Go.Proofs.Ytndefngkkikkeaa
open Go Go.RowKit Go.Lib
open X3 (errOf treeOf parseX mtB orMany)
theorem conv_byte (w : World) (x : Nat) (hx : x < 256) : (convert 40 9 (.slice (some ⟨w.heap.size, 0, none⟩) 1 1)).run Try.prog (w.alloc (.cells #[.int .u8 (x : Int)] 5)) = .ok (.string ⟨#[UInt8.ofNat x]⟩) (w.alloc (.cells #[.int .u8 (x : Int)] 5)) := by
  have := run_convert_bytes_back (P := Try.prog) (w.alloc (.cells #[.int .u8 (x : Int)] 5)) 40 9 5 ⟨w.heap.size, 0, none⟩ 1 [UInt8.ofNat x] Try.underlying40 Try.underlying5 Try.underlying9 (by
    intro j hj
    obtain rfl : j = 0 := by simpa using hj
    have h : (w.alloc (.cells #[.int .u8 (x : Int)] 5)).cell? ⟨w.heap.size, 0, none⟩ = some (.int .u8 (x : Int)) := by go_simp
    have e : (⟨w.heap.size, 0, none⟩ : Addr).add 0 = ⟨w.heap.size, 0, none⟩ := rfl
    rw [e, h]
    show _ = some (Value.int .u8 (((UInt8.ofNat x).toNat : Nat) : Int))
    rw [UInt8.toNat_ofNat', Nat.mod_eq_of_lt (by omega)])
  exact this
def dig : ByteArray := { data := #[48, 49, 50, 51, 52, 53, 54, 55, 56, 57, 97, 98, 99, 100, 101, 102] }
theorem dig_fin : ∀ k : Fin 16, dig.extract k.val (k.val + 1) = ⟨#[X3.hexd k.val]⟩ := by decide +kernel
theorem cut_dig (k : Nat) (hk : k < 16) (w : World) : (Instr.slice 9 (.string { data := #[48, 49, 50, 51, 52, 53, 54, 55, 56, 57, 97, 98, 99, 100, 101, 102] }) (some (.int .u8 (k : Int))) (some (.int .u8 ((k : Int) + 1))) none).run Try.prog w = .ok (.string ⟨#[X3.hexd k]⟩) w := by
  have h := run_slice_string (P := Try.prog) w 9 dig .u8 .u8 (k : Int) ((k : Int) + 1) Try.underlying9 (by omega) (by omega) (by have : dig.size = 16 := rfl; omega)
  have e : ((k : Int) + 1).toNat = k + 1 := by omega
  rw [Int.toNat_natCast, e, dig_fin ⟨k, hk⟩] at h
  exact h
theorem range_facts (T : ByteArray) (lo hi : Nat) (h1 : lo < 256) (h2 : hi < 256) (hT : LL T = X3.rangeT lo hi) : ∃ (E : Int) (R1 R2 : X3.RX), PC (({ data := #[91] } : ByteArray) ++ T ++ { data := #[93] }) E R1 ∧ PC (({ data := #[91, 94] } : ByteArray) ++ T ++ { data := #[93] }) E R2 ∧
    ((hi < lo ∧ E = 5) ∨ (lo ≤ hi ∧ E = 0 ∧ R1 = X3.spanX lo hi ∧ R2 = X3.exceptX (X3.spanX lo hi))) := by
  have hs : T.size = 9 := by rw [← ll_len, hT]; rfl
  have z1 : (({ data := #[91] } : ByteArray) ++ T ++ { data := #[93] }).size ≤ maxLen := by simp only [size_app]; unfold maxLen; have h1 : (⟨#[91]⟩ : ByteArray).size = 1 := rfl; have h2 : (⟨#[93]⟩ : ByteArray).size = 1 := rfl; omega
  have z2 : (({ data := #[91, 94] } : ByteArray) ++ T ++ { data := #[93] }).size ≤ maxLen := by simp only [size_app]; unfold maxLen; have h1 : (⟨#[91, 94]⟩ : ByteArray).size = 2 := rfl; have h2 : (⟨#[93]⟩ : ByteArray).size = 1 := rfl; omega
  have p1 := parse_tree _ z1
  have p2 := parse_tree _ z2
  have l1 : LL (({ data := #[91] } : ByteArray) ++ T ++ { data := #[93] }) = 91 :: (X3.rangeT lo hi ++ [93]) := by rw [ll_app, ll_app, hT]; simp [LL]
  have l2 : LL (({ data := #[91, 94] } : ByteArray) ++ T ++ { data := #[93] }) = 91 :: 94 :: (X3.rangeT lo hi ++ [93]) := by rw [ll_app, ll_app, hT]; simp [LL]
  rw [l1, X3.parse_range h1 h2] at p1
  rw [l2, X3.parse_others h1 h2] at p2
  by_cases c : hi < lo
  · rw [if_pos c] at p1 p2
    exact ⟨5, _, _, p1, p2, .inl ⟨c, rfl⟩⟩
  · rw [if_neg c] at p1 p2
    exact ⟨0, _, _, p1, p2, .inr ⟨by omega, rfl, rfl, rfl⟩⟩
set_option maxRecDepth 100000 in
set_option maxHeartbeats 4000000 in
theorem range_walk (lo hi b h1 l1 h2 l2 : Nat) (hlo : lo < 256) (hhi : hi < 256) (hb0 : b < 256) (a1 : h1 < 16) (a2 : l1 < 16) (a3 : h2 < 16) (a4 : l2 < 16)
    (q1 : Int.tdiv (lo : Int) 16 = (h1 : Int)) (q2 : Int.tmod (lo : Int) 16 = (l1 : Int)) (q3 : Int.tdiv (hi : Int) 16 = (h2 : Int)) (q4 : Int.tmod (hi : Int) 16 = (l2 : Int)) (e1 : lo / 16 = h1) (e2 : lo % 16 = l1) (e3 : hi / 16 = h2) (e4 : hi % 16 = l2) (w : World) : Calls Try.prog 6 #[.int .u8 (lo : Int), .int .u8 (hi : Int), .int .u8 (b : Int)] w fun e w' => e = .returned (.bool true) ∧ Below w.heap.size w w' := by
  have kW := hid works
  have kC : Hid (∀ w : World, (convert 40 9 (.slice (some ⟨w.heap.size, 0, none⟩) 1 1)).run Try.prog (w.alloc (.cells #[.int .u8 92] 5)) = .ok (.string ⟨#[92]⟩) (w.alloc (.cells #[.int .u8 92] 5))) := hid fun w => conv_byte w 92 (by decide)
  have sh1 := cut_dig h1 (by omega)
  have uh1 : IntKind.u8.wrap (h1 : Int) = (h1 : Int) := by rw [IntKind.wrap_u8]; omega
  have vh1 : IntKind.u8.wrap ((h1 : Int) + 1) = (h1 : Int) + 1 := by rw [IntKind.wrap_u8]; omega
  have sl1 := cut_dig l1 (by omega)
  have ul1 : IntKind.u8.wrap (l1 : Int) = (l1 : Int) := by rw [IntKind.wrap_u8]; omega
  have vl1 : IntKind.u8.wrap ((l1 : Int) + 1) = (l1 : Int) + 1 := by rw [IntKind.wrap_u8]; omega
  have sh2 := cut_dig h2 (by omega)
  have uh2 : IntKind.u8.wrap (h2 : Int) = (h2 : Int) := by rw [IntKind.wrap_u8]; omega
  have vh2 : IntKind.u8.wrap ((h2 : Int) + 1) = (h2 : Int) + 1 := by rw [IntKind.wrap_u8]; omega
  have sl2 := cut_dig l2 (by omega)
  have ul2 : IntKind.u8.wrap (l2 : Int) = (l2 : Int) := by rw [IntKind.wrap_u8]; omega
  have vl2 : IntKind.u8.wrap ((l2 : Int) + 1) = (l2 : Int) + 1 := by rw [IntKind.wrap_u8]; omega
  go_enter Try.func6, Try.ntmps6
  go_wp2_with fail
  refine (kW.out _).mono ?_
  rintro e w1 ⟨rfl, hb⟩
  have HB0 := hid hb
  clear hb
  have hc := kC.out w1
  go_wp2_with fail
  clear hc
  have hb : Below w1.heap.size w1 (w1.alloc (.cells #[.int .u8 92] 5)) := (Below.refl _ _).alloc (Nat.le_refl _) _
  generalize w1.alloc (.cells #[.int .u8 92] 5) = wx at *
  have HB2 := hid (HB0.out.trans (hb.mono HB0.out.size))
  clear HB0
  clear hb
  refine wp_region_below (by kernel_rfl) (by kernel_rfl) ?_
  repeat (first
    | (refine BigFrame.wpQuiet_skip (by rfl) ?_; try simp only [Act.put, List.setIfInBounds_toArray, List.set_cons_zero, List.set_cons_succ])
    | (refine BigFrame.wpQuiet_want (by rfl) (fun K hK => ?_)
       apply Exists.intro
       refine ⟨fun w' hC => ?_, hK _ ?_⟩
       · skip
         unfold Oper.quietAt
         go_simp
         first
           | with_reducible rfl
           | done
       clear hK K
       try simp only [Act.put, List.setIfInBounds_toArray, List.set_cons_zero, List.set_cons_succ]))
  refine wpQuiet_nil ?_
  intro w' hb
  have HB3 := hid (HB2.out.trans (hb.mono HB2.out.size))
  clear HB2
  clear hb
  obtain ⟨T, hT0⟩ : ∃ T : ByteArray, ({ data := #[92] } : ByteArray) ++ { data := #[120] } ++ { data := #[X3.hexd h1] } ++ { data := #[X3.hexd l1] } ++ { data := #[45] } ++ ({ data := #[92] } ++ { data := #[120] }) ++ { data := #[X3.hexd h2] } ++ { data := #[X3.hexd l2] } = T := ⟨_, rfl⟩
  have hT : LL T = X3.rangeT lo hi := by
    rw [← hT0]; simp only [ll_app]
    unfold X3.rangeT X3.hexB
    rw [e1, e2, e3, e4]
    rfl
  rw [hT0]
  clear hT0 sh1 sl1 sh2 sl2 uh1 vh1 ul1 vl1 uh2 vh2 ul2 vl2 q1 q2 q3 q4 e1 e2 e3 e4
  obtain ⟨E, R1, R2, c1, c2, hE⟩ := range_facts T lo hi hlo hhi hT
  have k1 := hid c1
  have k2 := hid c2
  have HE := hid hE
  have hz : T.size ≤ 9 := by rw [← ll_len, hT]; exact Nat.le_refl _
  clear c1 c2 hE hT
  go_wp2_with fail
  refine (k1.out _).mono ?_
  rintro e w4 ⟨rk, rx, ry, rz, ru, ro, rn, rc, rfl, hb, hR⟩
  have HB5 := hid (HB3.out.trans (hb.mono HB3.out.size))
  clear HB3
  clear hb
  obtain ⟨wa5, ea, hx, hba⟩ := box_new hR
  clear hR
  have HB6 := hid (HB5.out.trans (hba.mono HB5.out.size))
  clear HB5
  clear hba
  have HX7 := hid hx
  clear hx
  go_wp2_with fail
  clear ea
  generalize w4.heap.size = br at *
  rcases HE.out with ⟨c, hE⟩ | ⟨c, hE, r1, r2⟩
  · subst hE
    clear HE
    have c2 : (hi : Int) < (lo : Int) := by omega
    refine (k2.out _).mono ?_
    rintro e w8 ⟨nk, nx, ny, nz, nu, no, nn, nc, rfl, hb, hR⟩
    have HX9 := hid (HX7.out.next hb)
    clear HX7
    have HB10 := hid (HB6.out.trans (hb.mono HB6.out.size))
    clear HB6
    clear hb
    obtain ⟨wa10, ea, hx, hba⟩ := box_new hR
    clear hR
    have HX11 := hid (HX9.out.next hba)
    clear HX9
    have HB12 := hid (HB10.out.trans (hba.mono HB10.out.size))
    clear HB10
    clear hba
    have HX13 := hid hx
    clear hx
    go_wp2_with fail
    clear ea
    generalize w8.heap.size = bn at *
    go_ret
    exact ⟨rfl, HB12.out⟩
  subst hE r1 r2
  clear HE
  have c2 : (lo : Int) ≤ (hi : Int) := by omega
  have c3 : ¬ (hi : Int) < (lo : Int) := by omega
  have c4 : (UInt8.ofNat b).toNat = b := by rw [UInt8.toNat_ofNat', Nat.mod_eq_of_lt (by omega)]
  have d1 := X3.has_span (lo := lo) (hi := hi) hb0
  have d2 := X3.has_others (lo := lo) (hi := hi) hb0
  have d3 := X3.mt_range (lo := lo) (hi := hi) (UInt8.ofNat b)
  rw [c4] at d3
  clear c4
  have kM0 := hid (match_MC ⟨#[UInt8.ofNat b]⟩ (show 1 ≤ 1000 by decide))
  have kB := hid fun w => conv_byte w b hb0
  by_cases f1 : (b : Int) < (lo : Int)
  · rw [show decide (lo ≤ b ∧ b ≤ hi) = false from by simp; omega] at d1 d2 d3
    have kH1 : Hid (∀ (w : World) (v : Value), RepS (fun g => g < w.heap.size) w (X3.spanX lo hi) v → Calls Try.prog 15 #[v, .int .u8 (b : Int)] w fun e w' => e = .returned (.bool false) ∧ Below w.heap.size w w') := hid fun w v h => d1 ▸ has_any h b hb0 w
    have kH2 : Hid (∀ (w : World) (v : Value), RepS (fun g => g < w.heap.size) w (X3.exceptX (X3.spanX lo hi)) v → Calls Try.prog 15 #[v, .int .u8 (b : Int)] w fun e w' => e = .returned (.bool true) ∧ Below w.heap.size w w') := hid fun w v h => (show X3.hasX (X3.exceptX (X3.spanX lo hi)) b = true from d2) ▸ has_any h b hb0 w
    have kM : Hid (∀ (w : World) (v : Value), RepS (fun g => g < w.heap.size) w (X3.spanX lo hi) v → Calls Try.prog 17 #[v, .string ⟨#[UInt8.ofNat b]⟩] w fun e w' => e = .returned (.bool false) ∧ Below w.heap.size w w') := hid fun w v h => (show mtB (X3.spanX lo hi) (LL ⟨#[UInt8.ofNat b]⟩) = false from d3) ▸ kM0.out _ w v h (X3.span_size lo hi)
    clear d1 d2 d3 kM0
    refine (k2.out _).mono ?_
    rintro e w8 ⟨nk, nx, ny, nz, nu, no, nn, nc, rfl, hb, hR⟩
    have HX9 := hid (HX7.out.next hb)
    clear HX7
    have HB10 := hid (HB6.out.trans (hb.mono HB6.out.size))
    clear HB6
    clear hb
    obtain ⟨wa10, ea, hx, hba⟩ := box_new hR
    clear hR
    have HX11 := hid (HX9.out.next hba)
    clear HX9
    have HB12 := hid (HB10.out.trans (hba.mono HB10.out.size))
    clear HB10
    clear hba
    have HX13 := hid hx
    clear hx
    obtain ⟨r_0, r_1, r_2, r_3, r_4, r_5⟩ := HX11.out.cells
    go_wp2_with fail
    clear r_0 r_1 r_2 r_3 r_4 r_5
    clear ea
    generalize w8.heap.size = bn at *
    refine (kH1.out _ _ HX11.out.2).mono ?_
    rintro e w14 ⟨rfl, hb⟩
    have HX15 := hid (HX11.out.next hb)
    clear HX11
    have HX16 := hid (HX13.out.next hb)
    clear HX13
    have HB17 := hid (HB12.out.trans (hb.mono HB12.out.size))
    clear HB12
    clear hb
    obtain ⟨n_0, n_1, n_2, n_3, n_4, n_5⟩ := HX16.out.cells
    go_wp2_with fail
    clear n_0 n_1 n_2 n_3 n_4 n_5
    refine (kH2.out _ _ HX16.out.2).mono ?_
    rintro e w18 ⟨rfl, hb⟩
    have HX19 := hid (HX15.out.next hb)
    clear HX15
    have HX20 := hid (HX16.out.next hb)
    clear HX16
    have HB21 := hid (HB17.out.trans (hb.mono HB17.out.size))
    clear HB17
    clear hb
    obtain ⟨wz, ez, hbz⟩ : ∃ wz, w18.alloc (.cells #[.int .u8 (b : Int)] 5) = wz ∧ Below w18.heap.size w18 wz := ⟨_, rfl, (Below.refl _ _).alloc (Nat.le_refl _) _⟩
    have hc := kB.out w18
    rw [ez] at hc
    obtain ⟨m0, m1, m2, m3, m4, m5⟩ := HX19.out.cells
    have HX22 := hid (HX19.out.next hbz)
    clear HX19
    have HX23 := hid (HX20.out.next hbz)
    clear HX20
    have HB24 := hid (HB21.out.trans (hbz.mono HB21.out.size))
    clear HB21
    clear hbz
    obtain ⟨r_0, r_1, r_2, r_3, r_4, r_5⟩ := HX22.out.cells
    go_wp2_with fail
    clear r_0 r_1 r_2 r_3 r_4 r_5
    clear ez hc m0 m1 m2 m3 m4 m5
    refine (kM.out _ _ HX22.out.2).mono ?_
    rintro e w25 ⟨rfl, hb⟩
    have HX26 := hid (HX22.out.next hb)
    clear HX22
    have HX27 := hid (HX23.out.next hb)
    clear HX23
    have HB28 := hid (HB24.out.trans (hb.mono HB24.out.size))
    clear HB24
    clear hb
    go_wp2_with fail
    try rw [show decide (b ≤ hi) = false from by simp; omega]
    go_ret
    exact ⟨rfl, HB28.out⟩
  have f2 : (lo : Int) ≤ (b : Int) := by omega
  by_cases f3 : (hi : Int) < (b : Int)
  · rw [show decide (lo ≤ b ∧ b ≤ hi) = false from by simp; omega] at d1 d2 d3
    have kH1 : Hid (∀ (w : World) (v : Value), RepS (fun g => g < w.heap.size) w (X3.spanX lo hi) v → Calls Try.prog 15 #[v, .int .u8 (b : Int)] w fun e w' => e = .returned (.bool false) ∧ Below w.heap.size w w') := hid fun w v h => d1 ▸ has_any h b hb0 w
    have kH2 : Hid (∀ (w : World) (v : Value), RepS (fun g => g < w.heap.size) w (X3.exceptX (X3.spanX lo hi)) v → Calls Try.prog 15 #[v, .int .u8 (b : Int)] w fun e w' => e = .returned (.bool true) ∧ Below w.heap.size w w') := hid fun w v h => (show X3.hasX (X3.exceptX (X3.spanX lo hi)) b = true from d2) ▸ has_any h b hb0 w
    have kM : Hid (∀ (w : World) (v : Value), RepS (fun g => g < w.heap.size) w (X3.spanX lo hi) v → Calls Try.prog 17 #[v, .string ⟨#[UInt8.ofNat b]⟩] w fun e w' => e = .returned (.bool false) ∧ Below w.heap.size w w') := hid fun w v h => (show mtB (X3.spanX lo hi) (LL ⟨#[UInt8.ofNat b]⟩) = false from d3) ▸ kM0.out _ w v h (X3.span_size lo hi)
    clear d1 d2 d3 kM0
    refine (k2.out _).mono ?_
    rintro e w8 ⟨nk, nx, ny, nz, nu, no, nn, nc, rfl, hb, hR⟩
    have HX9 := hid (HX7.out.next hb)
    clear HX7
    have HB10 := hid (HB6.out.trans (hb.mono HB6.out.size))
    clear HB6
    clear hb
    obtain ⟨wa10, ea, hx, hba⟩ := box_new hR
    clear hR
    have HX11 := hid (HX9.out.next hba)
    clear HX9
    have HB12 := hid (HB10.out.trans (hba.mono HB10.out.size))
    clear HB10
    clear hba
    have HX13 := hid hx
    clear hx
    obtain ⟨r_0, r_1, r_2, r_3, r_4, r_5⟩ := HX11.out.cells
    go_wp2_with fail
    clear r_0 r_1 r_2 r_3 r_4 r_5
    clear ea
    generalize w8.heap.size = bn at *
    refine (kH1.out _ _ HX11.out.2).mono ?_
    rintro e w14 ⟨rfl, hb⟩
    have HX15 := hid (HX11.out.next hb)
    clear HX11
    have HX16 := hid (HX13.out.next hb)
    clear HX13
    have HB17 := hid (HB12.out.trans (hb.mono HB12.out.size))
    clear HB12
    clear hb
    obtain ⟨n_0, n_1, n_2, n_3, n_4, n_5⟩ := HX16.out.cells
    go_wp2_with fail
    clear n_0 n_1 n_2 n_3 n_4 n_5
    refine (kH2.out _ _ HX16.out.2).mono ?_
    rintro e w18 ⟨rfl, hb⟩
    have HX19 := hid (HX15.out.next hb)
    clear HX15
    have HX20 := hid (HX16.out.next hb)
    clear HX16
    have HB21 := hid (HB17.out.trans (hb.mono HB17.out.size))
    clear HB17
    clear hb
    obtain ⟨wz, ez, hbz⟩ : ∃ wz, w18.alloc (.cells #[.int .u8 (b : Int)] 5) = wz ∧ Below w18.heap.size w18 wz := ⟨_, rfl, (Below.refl _ _).alloc (Nat.le_refl _) _⟩
    have hc := kB.out w18
    rw [ez] at hc
    obtain ⟨m0, m1, m2, m3, m4, m5⟩ := HX19.out.cells
    have HX22 := hid (HX19.out.next hbz)
    clear HX19
    have HX23 := hid (HX20.out.next hbz)
    clear HX20
    have HB24 := hid (HB21.out.trans (hbz.mono HB21.out.size))
    clear HB21
    clear hbz
    obtain ⟨r_0, r_1, r_2, r_3, r_4, r_5⟩ := HX22.out.cells
    go_wp2_with fail
    clear r_0 r_1 r_2 r_3 r_4 r_5
    clear ez hc m0 m1 m2 m3 m4 m5
    refine (kM.out _ _ HX22.out.2).mono ?_
    rintro e w25 ⟨rfl, hb⟩
    have HX26 := hid (HX22.out.next hb)
    clear HX22
    have HX27 := hid (HX23.out.next hb)
    clear HX23
    have HB28 := hid (HB24.out.trans (hb.mono HB24.out.size))
    clear HB24
    clear hb
    go_wp2_with fail
    try rw [show decide (b ≤ hi) = false from by simp; omega]
    go_ret
    exact ⟨rfl, HB28.out⟩
  have f4 : (b : Int) ≤ (hi : Int) := by omega
  rw [show decide (lo ≤ b ∧ b ≤ hi) = true from by simp; omega] at d1 d2 d3
  have kH1 : Hid (∀ (w : World) (v : Value), RepS (fun g => g < w.heap.size) w (X3.spanX lo hi) v → Calls Try.prog 15 #[v, .int .u8 (b : Int)] w fun e w' => e = .returned (.bool true) ∧ Below w.heap.size w w') := hid fun w v h => d1 ▸ has_any h b hb0 w
  have kH2 : Hid (∀ (w : World) (v : Value), RepS (fun g => g < w.heap.size) w (X3.exceptX (X3.spanX lo hi)) v → Calls Try.prog 15 #[v, .int .u8 (b : Int)] w fun e w' => e = .returned (.bool false) ∧ Below w.heap.size w w') := hid fun w v h => (show X3.hasX (X3.exceptX (X3.spanX lo hi)) b = false from d2) ▸ has_any h b hb0 w
  have kM : Hid (∀ (w : World) (v : Value), RepS (fun g => g < w.heap.size) w (X3.spanX lo hi) v → Calls Try.prog 17 #[v, .string ⟨#[UInt8.ofNat b]⟩] w fun e w' => e = .returned (.bool true) ∧ Below w.heap.size w w') := hid fun w v h => (show mtB (X3.spanX lo hi) (LL ⟨#[UInt8.ofNat b]⟩) = true from d3) ▸ kM0.out _ w v h (X3.span_size lo hi)
  clear d1 d2 d3 kM0
  refine (k2.out _).mono ?_
  rintro e w8 ⟨nk, nx, ny, nz, nu, no, nn, nc, rfl, hb, hR⟩
  have HX9 := hid (HX7.out.next hb)
  clear HX7
  have HB10 := hid (HB6.out.trans (hb.mono HB6.out.size))
  clear HB6
  clear hb
  obtain ⟨wa10, ea, hx, hba⟩ := box_new hR
  clear hR
  have HX11 := hid (HX9.out.next hba)
  clear HX9
  have HB12 := hid (HB10.out.trans (hba.mono HB10.out.size))
  clear HB10
  clear hba
  have HX13 := hid hx
  clear hx
  obtain ⟨r_0, r_1, r_2, r_3, r_4, r_5⟩ := HX11.out.cells
  go_wp2_with fail
  clear r_0 r_1 r_2 r_3 r_4 r_5
  clear ea
  generalize w8.heap.size = bn at *
  refine (kH1.out _ _ HX11.out.2).mono ?_
  rintro e w14 ⟨rfl, hb⟩
  have HX15 := hid (HX11.out.next hb)
  clear HX11
  have HX16 := hid (HX13.out.next hb)
  clear HX13
  have HB17 := hid (HB12.out.trans (hb.mono HB12.out.size))
  clear HB12
  clear hb
  obtain ⟨n_0, n_1, n_2, n_3, n_4, n_5⟩ := HX16.out.cells
  go_wp2_with fail
  clear n_0 n_1 n_2 n_3 n_4 n_5
  refine (kH2.out _ _ HX16.out.2).mono ?_
  rintro e w18 ⟨rfl, hb⟩
  have HX19 := hid (HX15.out.next hb)
  clear HX15
  have HX20 := hid (HX16.out.next hb)
  clear HX16
  have HB21 := hid (HB17.out.trans (hb.mono HB17.out.size))
  clear HB17
  clear hb
  obtain ⟨wz, ez, hbz⟩ : ∃ wz, w18.alloc (.cells #[.int .u8 (b : Int)] 5) = wz ∧ Below w18.heap.size w18 wz := ⟨_, rfl, (Below.refl _ _).alloc (Nat.le_refl _) _⟩
  have hc := kB.out w18
  rw [ez] at hc
  obtain ⟨m0, m1, m2, m3, m4, m5⟩ := HX19.out.cells
  have HX22 := hid (HX19.out.next hbz)
  clear HX19
  have HX23 := hid (HX20.out.next hbz)
  clear HX20
  have HB24 := hid (HB21.out.trans (hbz.mono HB21.out.size))
  clear HB21
  clear hbz
  obtain ⟨r_0, r_1, r_2, r_3, r_4, r_5⟩ := HX22.out.cells
  go_wp2_with fail
  clear r_0 r_1 r_2 r_3 r_4 r_5
  clear ez hc m0 m1 m2 m3 m4 m5
  refine (kM.out _ _ HX22.out.2).mono ?_
  rintro e w25 ⟨rfl, hb⟩
  have HX26 := hid (HX22.out.next hb)
  clear HX22
  have HX27 := hid (HX23.out.next hb)
  clear HX23
  have HB28 := hid (HB24.out.trans (hb.mono HB24.out.size))
  clear HB24
  clear hb
  go_wp2_with fail
  try rw [show decide (b ≤ hi) = true from by simp; omega]
  go_ret
  exact ⟨rfl, HB28.out⟩
theorem range_any (lo hi b : Nat) (hlo : lo < 256) (hhi : hi < 256) (hb0 : b < 256) (w : World) : Calls Try.prog 6 #[.int .u8 (lo : Int), .int .u8 (hi : Int), .int .u8 (b : Int)] w fun e w' => e = .returned (.bool true) ∧ Below w.heap.size w w' :=
  range_walk lo hi b (lo / 16) (lo % 16) (hi / 16) (hi % 16) hlo hhi hb0 (by omega) (by omega) (by omega) (by omega) (by rw [Int.tdiv_eq_ediv_of_nonneg (by omega)]; omega) (by rw [Int.tmod_eq_emod_of_nonneg (by omega)]; omega) (by rw [Int.tdiv_eq_ediv_of_nonneg (by omega)]; omega) (by rw [Int.tmod_eq_emod_of_nonneg (by omega)]; omega) rfl rfl rfl rfl w
end Go.Proofs.Ytndefngkkikkeaa
