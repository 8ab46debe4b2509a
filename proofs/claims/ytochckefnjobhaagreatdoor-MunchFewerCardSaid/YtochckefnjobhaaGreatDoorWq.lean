/- MunchFewer: the walk. -/
import Derived.Test.YtochckefnjobhaaGreatDoorWo
namespace Go.Proofs.X7
open X5 (Aut runX)
open Go.Proofs.YtochckefnjobhaaGreatDoor.B1 (inN lessN lessN_zero_iff)
set_option linter.unusedVariables false
theorem in_of {a b : Nat} (ha : a < M64) (h : ∀ i, a.testBit i = true → b.testBit i = true) : inN a b = true := by
  unfold inN
  rw [decide_eq_true_iff]
  exact (lessN_zero_iff ha).2 fun i _ k => h i k
theorem fX_less (D : Aut) (t : List UInt8) (a may less j : Nat) {i : Nat} (h : (fX D t a (may &&& less) j).testBit i = true) : (fX D t a may j).testBit i = true := by
  have h1 : (runX D ((t.drop a).take j) &&& (may &&& less)).testBit i = true := h
  show (runX D ((t.drop a).take j) &&& may).testBit i = true
  rw [Nat.testBit_and, Nat.testBit_and] at h1
  rw [Nat.testBit_and]
  simp only [Bool.and_eq_true] at h1 ⊢
  exact ⟨h1.1, h1.2.1⟩
theorem last_fewer (D : Aut) (t : List UInt8) (a may less : Nat) (hm : may < M64) : ∀ n, (lastX D t a (may &&& less) n).2 ≤ (lastX D t a may n).2 ∧ ((lastX D t a (may &&& less) n).2 < (lastX D t a may n).2 ∨ ∀ i, (lastX D t a (may &&& less) n).1.testBit i = true → (lastX D t a may n).1.testBit i = true) ∧ ∀ i, (lastX D t a (may &&& less) n).1.testBit i = true → may.testBit i = true
  | 0 => ⟨Nat.le_refl _, .inr fun _ h => h, fun i h => by
      have : (0 : Nat).testBit i = true := h
      simp at this⟩
  | n + 1 => by
    obtain ⟨h1, h2, h3⟩ := last_fewer D t a may less hm n
    have hb := (last_le D t a (may &&& less) n).2
    rw [lastX, lastX]
    by_cases c : fX D t a (may &&& less) (n + 1) = 0
    · rw [if_neg (by simpa using c)]
      by_cases d : fX D t a may (n + 1) = 0
      · rw [if_neg (by simpa using d)]
        exact ⟨h1, h2, h3⟩
      · rw [if_pos d]
        exact ⟨by show _ ≤ a + n + 1; omega, .inl (by show _ < a + n + 1; omega), h3⟩
    · have d : fX D t a may (n + 1) ≠ 0 := fun e => c (Nat.eq_of_testBit_eq fun i => by
        cases k : (fX D t a (may &&& less) (n + 1)).testBit i with
        | false => simp
        | true =>
          have := fX_less D t a may less (n + 1) k
          rw [e] at this
          simp at this)
      rw [if_pos c, if_pos d]
      refine ⟨Nat.le_refl _, .inr fun i h => fX_less D t a may less (n + 1) h, fun i h => ?_⟩
      have := fX_less D t a may less (n + 1) h
      have h4 : (runX D ((t.drop a).take (n + 1)) &&& may).testBit i = true := this
      rw [Nat.testBit_and, Bool.and_eq_true] at h4
      exact h4.2
end Go.Proofs.X7
namespace Go.Proofs.YtochckefnjobhaaGreatDoor
open Go Go.RowKit Go.Lib
open X5 (Aut)
open X7 (M64)
set_option linter.unusedVariables false
set_option linter.unusedSimpArgs false

set_option maxRecDepth 100000 in
set_option maxHeartbeats 16000000 in
theorem fewer_walk {D : Aut} {d0 : Array Value} (w : World) (hL : Lies D d0 w) (s : ByteArray) (hs : s.size ≤ maxLen) (z : Int) (may : Nat) (hmay : may < M64) (less : Nat) (hless : less < M64) {Bt : Nat} (ht : Tab Bt w) (hBt : Bt ≤ w.heap.size) :
    Calls Tryz.prog 10 #[.agg d0, .string s, .int .i64 z, .int .u64 (may : Int), .int .u64 (less : Int)] w fun e w' => e = .returned (.bool true) ∧ Below w.heap.size w w' := by
  obtain ⟨wa, ea, hxa, hba⟩ := boxed w d0
  have HL := hid (hL.below hba)
  have HX := hid hxa
  have HB := hid hba
  have K := hid (works07 wa (ht.on (hba.mono hBt)) (Nat.le_trans hBt hba.size))
  have HD := hid hL.sz
  have HSM := hid hs
  clear hL ht hxa hba hs
  go_enter Tryz.func10, Tryz.ntmps10
  go_wp2_with fail
  refine K.out.mono ?_
  rintro e w1 ⟨rfl, hb⟩
  clear K ea
  have HB1 := hid (HB.out.trans (hb.mono HB.out.size))
  have HL := hid (HL.out.below hb)
  have HX := hid (HX.out.below hb)
  have K := hid (few_any w1 HL.out s HSM.out none 0 0 (by decide))
  clear hb
  go_wp2_with fail
  refine wp_load30' (.tmp 5) rfl w.heap.size rfl d0 HX.out HD.out.1 ?_
  go_wp2_with fail
  refine K.out.mono ?_
  rintro e w2 ⟨b, rfl, hbl, hb⟩
  clear K
  have HB2 := hid (HB1.out.trans (hb.mono HB1.out.size))
  have HL := hid (HL.out.below hb)
  have HX := hid (HX.out.below hb)
  clear hb
  cases b with
  | false =>
    clear hbl
    go_wp2_with fail
    go_ret
    exact ⟨rfl, HB2.out⟩
  | true =>
    have HLT := hid (hbl rfl)
    have hs40 := HLT.out.2.1
    clear hbl
    by_cases hz : z < 0
    · go_wp2_with fail
      go_ret
      exact ⟨rfl, HB2.out⟩
    by_cases hz2 : (s.size : Int) < z
    · go_wp2_with fail
      go_ret
      exact ⟨rfl, HB2.out⟩
    obtain ⟨a, rfl⟩ : ∃ a : Nat, z = (a : Int) := ⟨z.toNat, by omega⟩
    have K := hid (longest_any w2 HL.out s (by omega) (a : Int) may hmay)
    have hls : (LL s).length = s.size := Array.length_toList
    have hlg : ∀ m, X7.lgX D (LL s) (a : Int) m = ((X7.lastX D (LL s) a m (s.size - a)).1, ((X7.lastX D (LL s) a m (s.size - a)).2 : Int)) := fun m => by
      unfold X7.lgX
      rw [hls, if_neg (by omega), Int.toNat_natCast]
    rw [hlg] at K
    have hmm : may &&& less < M64 := Nat.lt_of_le_of_lt Nat.and_le_left hmay
    have HLL := hid (X7.last_lt D (LL s) a (may &&& less) hmm (s.size - a))
    have HLA := hid (X7.last_lt D (LL s) a may hmay (s.size - a))
    have HFW := hid (X7.last_fewer D (LL s) a may less hmay (s.size - a))
    have KL : Hid (∀ w', Below w2.heap.size w2 w' → Calls Tryz.prog 28 #[.agg d0, .string s, .int .i64 (a : Int), .int .u64 ((may &&& less : Nat) : Int)] w' fun e w'' => e = .returned (.agg #[.int .u64 ((X7.lastX D (LL s) a (may &&& less) (s.size - a)).1 : Int), .int .i64 ((X7.lastX D (LL s) a (may &&& less) (s.size - a)).2 : Int)]) ∧ Below w'.heap.size w' w'') := hid fun w' hC => by
      have := longest_any w' (HL.out.below hC) s (by omega) (a : Int) (may &&& less) hmm
      rw [hlg] at this
      exact this
    have KM := hid (B1.Meet_any may less hmay hless)
    obtain ⟨mm, hm2⟩ : ∃ mm, may &&& less = mm := ⟨_, rfl⟩
    rw [hm2] at KM KL HLL HFW
    generalize (X7.lastX D (LL s) a may (s.size - a)).1 = p1 at *
    generalize (X7.lastX D (LL s) a may (s.size - a)).2 = p2 at *
    generalize (X7.lastX D (LL s) a mm (s.size - a)).1 = q1 at *
    generalize (X7.lastX D (LL s) a mm (s.size - a)).2 = q2 at *
    clear hlg hls hmm hm2
    go_wp2_with fail
    refine wp_load30' (.tmp 5) rfl w.heap.size rfl d0 HX.out HD.out.1 ?_
    go_wp2_with fail
    refine K.out.mono ?_
    rintro e w3 ⟨rfl, hb⟩
    clear K
    have HB3 := hid (HB2.out.trans (hb.mono HB2.out.size))
    obtain ⟨w4, e4⟩ : ∃ w4, w3.alloc (.cells #[.int .u64 (p1 : Int), .int .i64 (p2 : Int)] 61) = w4 := ⟨_, rfl⟩
    have hb4 : Below w3.heap.size w3 w4 := by rw [← e4]; exact (Below.refl _ _).alloc (Nat.le_refl _) _
    obtain ⟨we, ewe⟩ : ∃ we, w4.drew = we := ⟨_, rfl⟩
    have hbe : Below w4.heap.size w4 we := by rw [← ewe]; exact (Below.refl _ _).drew
    have HN4 := hid (show we.heap[w3.heap.size]? = some (.cells #[.int .u64 (p1 : Int), .int .i64 (p2 : Int)] 61 (0, 0)) from by rw [← ewe, ← e4]; exact new_block _ _)
    have hbb := hb.trans ((hb4.trans (hbe.mono hb4.size)).mono hb.size)
    have HBE := hid (HB2.out.trans (hbb.mono HB2.out.size))
    have HBB := hid hbb
    have HX4 := hid (show we.heap[w.heap.size]? = some (.cells d0 26 (0, 0)) from (HX.out.below hbb))
    have lwX := Bxx.lt HX.out
    have hS : ∀ w' : World, Below we.heap.size we w' → w'.heap[w.heap.size]? = some (.cells d0 26 (0, 0)) := fun w' hb => (hb.block _ (Array.getElem?_eq_some_iff.1 HX4.out).1).trans HX4.out
    have KL : Hid (∀ w', Below we.heap.size we w' → Calls Tryz.prog 28 #[.agg d0, .string s, .int .i64 (a : Int), .int .u64 (mm : Int)] w' fun e w'' => e = .returned (.agg #[.int .u64 (q1 : Int), .int .i64 (q2 : Int)]) ∧ Below w'.heap.size w' w'') := hid fun w' hC => KL.out w' (HBB.out.trans (hC.mono HBB.out.size))
    have HH0 := hS we (Below.refl _ _)
    have HS := hid hS
    clear hb hb4 hbe hbb hS
    go_wp2_with fail
    refine region_T 8 (fun w' => w'.heap[w.heap.size]? = some (.cells d0 26 (0, 0))) (by kernel_rfl) (by rw [ewe]; exact HH0) (fun inv hHeld => ?_)
    rw [ewe]
    clear hHeld ewe e4
    refine anyT_take (i := 0) (oi := { dst := some 39, op := Go.Op.load 26 (Go.Operand.tmp 5), type := 26, pos := "law.go:145", after := #[], guard := none }) (v := .agg d0) rfl (by kernel_rfl) (by kernel_rfl) (by kernel_rfl) (by decide) (by decide) (by kernel_rfl) (by kernel_rfl) (fun _ _ _ h => h) (Or.inl ⟨by rfl, fun w' hSw => exec_load30 (.tmp 5) rfl w.heap.size rfl d0 hSw HD.out.1⟩) HH0 inv (fun inv => ?_)
    simp only [Act.put, List.setIfInBounds_toArray, List.set_cons_zero, List.set_cons_succ]
    refine anyT_take (i := 1) (oi := { dst := some 40, op := Go.Op.move (Go.Operand.tmp 1), type := 9, pos := "law.go:145", after := #[], guard := none }) (v := ?_) rfl (by kernel_rfl) (by kernel_rfl) (by kernel_rfl) (by decide) (by decide) (by kernel_rfl) (by kernel_rfl) (fun _ _ _ h => h) (Or.inl ⟨by rfl, ?_⟩) HH0 inv (fun inv => ?_)
    rotate_left
    · intro w hSw
      try dsimp only at hSw
      go_simp
      try with_reducible rfl
    simp only [Act.put, List.setIfInBounds_toArray, List.set_cons_zero, List.set_cons_succ]
    refine anyT_take (i := 2) (oi := { dst := some 41, op := Go.Op.move (Go.Operand.tmp 2), type := 3, pos := "law.go:145", after := #[], guard := none }) (v := ?_) rfl (by kernel_rfl) (by kernel_rfl) (by kernel_rfl) (by decide) (by decide) (by kernel_rfl) (by kernel_rfl) (fun _ _ _ h => h) (Or.inl ⟨by rfl, ?_⟩) HH0 inv (fun inv => ?_)
    rotate_left
    · intro w hSw
      try dsimp only at hSw
      go_simp
      try with_reducible rfl
    simp only [Act.put, List.setIfInBounds_toArray, List.set_cons_zero, List.set_cons_succ]
    refine anyT_take (i := 3) (oi := { dst := some 42, op := Go.Op.move (Go.Operand.tmp 3), type := 54, pos := "law.go:145", after := #[], guard := none }) (v := ?_) rfl (by kernel_rfl) (by kernel_rfl) (by kernel_rfl) (by decide) (by decide) (by kernel_rfl) (by kernel_rfl) (fun _ _ _ h => h) (Or.inl ⟨by rfl, ?_⟩) HH0 inv (fun inv => ?_)
    rotate_left
    · intro w hSw
      try dsimp only at hSw
      go_simp
      try with_reducible rfl
    simp only [Act.put, List.setIfInBounds_toArray, List.set_cons_zero, List.set_cons_succ]
    refine anyT_take (i := 4) (oi := { dst := some 43, op := Go.Op.move (Go.Operand.tmp 4), type := 54, pos := "law.go:145", after := #[], guard := none }) (v := ?_) rfl (by kernel_rfl) (by kernel_rfl) (by kernel_rfl) (by decide) (by decide) (by kernel_rfl) (by kernel_rfl) (fun _ _ _ h => h) (Or.inl ⟨by rfl, ?_⟩) HH0 inv (fun inv => ?_)
    rotate_left
    · intro w hSw
      try dsimp only at hSw
      go_simp
      try with_reducible rfl
    simp only [Act.put, List.setIfInBounds_toArray, List.set_cons_zero, List.set_cons_succ]
    clear inv
    refine (fun (REST : ∀ (g : Nat) (x : World), Below we.heap.size we x → we.heap.size ≤ g → x.heap[g]? = some (.cells #[.int .u64 0, .int .i64 0] 61 (0, 0)) → (?A : Nat → World → Prop) g x) => ?main) ?rest
    case main =>
      have hb0 : Below we.heap.size we we := Below.refl _ _
      have hl0 : we.heap.size ≤ we.heap.size := Nat.le_refl _
      refine anyT_two (i := 5) (k := 7) (o := { dst := some 44, op := Go.Op.call { callee := Go.Callee.value (Go.Operand.func 36), args := #[Go.Operand.tmp 42, Go.Operand.tmp 43], argTypes := #[54, 54] }, type := 54, pos := "law.go:145", after := #[{ on := 3, ground := Go.Ground.data }, { on := 4, ground := Go.Ground.data }], guard := none }) (p := { dst := some 14, op := Go.Op.alloc 61, type := 0, pos := "law.go:145", after := #[], guard := none }) (by kernel_rfl) rfl rfl (fun K' hK => ?_) (fun K' hK => ?_)
      · go_simp
        refine (KM.out we).mono ?_
        rintro e w' ⟨rfl, rfl⟩
        refine hK.out _ _ (fun _ => HS.out _ hb0) ?_
        clear hK K'
        try simp only [Act.put, List.setIfInBounds_toArray, List.set_cons_zero, List.set_cons_succ]
        refine anyT_two (i := 6) (k := 7) (o := { dst := some 45, op := Go.Op.call { callee := Go.Callee.value (Go.Operand.func 28), args := #[Go.Operand.tmp 39, Go.Operand.tmp 40, Go.Operand.tmp 41, Go.Operand.tmp 44], argTypes := #[26, 9, 3, 54] }, type := 61, pos := "law.go:145", after := #[{ on := 0, ground := Go.Ground.data }, { on := 1, ground := Go.Ground.data }, { on := 2, ground := Go.Ground.data }, { on := 5, ground := Go.Ground.data }, { on := 5, ground := Go.Ground.chain }], guard := none }) (p := { dst := some 14, op := Go.Op.alloc 61, type := 0, pos := "law.go:145", after := #[], guard := none }) (by kernel_rfl) rfl rfl (fun K' hK => ?_) (fun K' hK => ?_)
        · go_simp
          refine (KL.out we hb0).mono ?_
          rintro e x1 ⟨rfl, hbx1⟩
          have hBx1 := hb0.trans (hbx1.mono hb0.size)
          refine hK.out _ _ (fun _ => HS.out _ hBx1) ?_
          clear hK K'
          try simp only [Act.put, List.setIfInBounds_toArray, List.set_cons_zero, List.set_cons_succ]
          refine anyT_one (i := 7) (o := { dst := some 14, op := Go.Op.alloc 61, type := 0, pos := "law.go:145", after := #[], guard := none }) (by kernel_rfl) rfl (fun K' hK => ?_)
          obtain ⟨x2, ex2⟩ : ∃ x, World.alloc x1 (.cells #[.int .u64 0, .int .i64 0] 61) = x := ⟨_, rfl⟩
          have hbx2 : Below (World.heap x1).size x1 x2 := by rw [← ex2]; exact (Below.refl _ _).alloc (Nat.le_refl _) _
          have hnx2 : (World.heap x2)[(World.heap x1).size]? = some (.cells #[.int .u64 0, .int .i64 0] 61 (0, 0)) := by rw [← ex2]; exact new_block _ _
          have hBx2 := hBx1.trans (hbx2.mono hBx1.size)
          have hgx2 : we.heap.size ≤ (World.heap x1).size := hBx1.size
          go_simp
          refine hK.out _ _ (fun _ => HS.out _ hBx2) ?_
          clear hK K' ex2
          try simp only [Act.put, List.setIfInBounds_toArray, List.set_cons_zero, List.set_cons_succ]
          obtain ⟨g, hgg⟩ : ∃ g, (World.heap x1).size = g := ⟨_, rfl⟩
          have hglx2 : we.heap.size ≤ g := by rw [← hgg]; exact hgx2
          rw [hgg] at hnx2 ⊢
          clear hgg hgx2
          exact REST g x2 hBx2 hglx2 hnx2
        · obtain ⟨x1, ex1⟩ : ∃ x, World.alloc we (.cells #[.int .u64 0, .int .i64 0] 61) = x := ⟨_, rfl⟩
          have hbx1 : Below (World.heap we).size we x1 := by rw [← ex1]; exact (Below.refl _ _).alloc (Nat.le_refl _) _
          have hnx1 : (World.heap x1)[(World.heap we).size]? = some (.cells #[.int .u64 0, .int .i64 0] 61 (0, 0)) := by rw [← ex1]; exact new_block _ _
          have hBx1 := hb0.trans (hbx1.mono hb0.size)
          have hgx1 : we.heap.size ≤ (World.heap we).size := hb0.size
          go_simp
          refine hK.out _ _ (fun _ => HS.out _ hBx1) ?_
          clear hK K' ex1
          try simp only [Act.put, List.setIfInBounds_toArray, List.set_cons_zero, List.set_cons_succ]
          obtain ⟨g, hgg⟩ : ∃ g, (World.heap we).size = g := ⟨_, rfl⟩
          have hglx1 : we.heap.size ≤ g := by rw [← hgg]; exact hgx1
          rw [hgg] at hnx1 ⊢
          clear hgg hgx1
          refine anyT_one (i := 6) (o := { dst := some 45, op := Go.Op.call { callee := Go.Callee.value (Go.Operand.func 28), args := #[Go.Operand.tmp 39, Go.Operand.tmp 40, Go.Operand.tmp 41, Go.Operand.tmp 44], argTypes := #[26, 9, 3, 54] }, type := 61, pos := "law.go:145", after := #[{ on := 0, ground := Go.Ground.data }, { on := 1, ground := Go.Ground.data }, { on := 2, ground := Go.Ground.data }, { on := 5, ground := Go.Ground.data }, { on := 5, ground := Go.Ground.chain }], guard := none }) (by kernel_rfl) rfl (fun K' hK => ?_)
          go_simp
          refine (KL.out x1 hBx1).mono ?_
          rintro e x2 ⟨rfl, hbx2⟩
          have hBx2 := hBx1.trans (hbx2.mono hBx1.size)
          have hnx2 := (hbx2.block _ (Array.getElem?_eq_some_iff.1 hnx1).1).trans hnx1
          refine hK.out _ _ (fun _ => HS.out _ hBx2) ?_
          clear hK K'
          try simp only [Act.put, List.setIfInBounds_toArray, List.set_cons_zero, List.set_cons_succ]
          exact REST g x2 hBx2 hglx1 hnx2
      · obtain ⟨x1, ex1⟩ : ∃ x, World.alloc we (.cells #[.int .u64 0, .int .i64 0] 61) = x := ⟨_, rfl⟩
        have hbx1 : Below (World.heap we).size we x1 := by rw [← ex1]; exact (Below.refl _ _).alloc (Nat.le_refl _) _
        have hnx1 : (World.heap x1)[(World.heap we).size]? = some (.cells #[.int .u64 0, .int .i64 0] 61 (0, 0)) := by rw [← ex1]; exact new_block _ _
        have hBx1 := hb0.trans (hbx1.mono hb0.size)
        have hgx1 : we.heap.size ≤ (World.heap we).size := hb0.size
        go_simp
        refine hK.out _ _ (fun _ => HS.out _ hBx1) ?_
        clear hK K' ex1
        try simp only [Act.put, List.setIfInBounds_toArray, List.set_cons_zero, List.set_cons_succ]
        obtain ⟨g, hgg⟩ : ∃ g, (World.heap we).size = g := ⟨_, rfl⟩
        have hglx1 : we.heap.size ≤ g := by rw [← hgg]; exact hgx1
        rw [hgg] at hnx1 ⊢
        clear hgg hgx1
        refine anyT_one (i := 5) (o := { dst := some 44, op := Go.Op.call { callee := Go.Callee.value (Go.Operand.func 36), args := #[Go.Operand.tmp 42, Go.Operand.tmp 43], argTypes := #[54, 54] }, type := 54, pos := "law.go:145", after := #[{ on := 3, ground := Go.Ground.data }, { on := 4, ground := Go.Ground.data }], guard := none }) (by kernel_rfl) rfl (fun K' hK => ?_)
        go_simp
        refine (KM.out x1).mono ?_
        rintro e w' ⟨rfl, rfl⟩
        refine hK.out _ _ (fun _ => HS.out _ hBx1) ?_
        clear hK K'
        try simp only [Act.put, List.setIfInBounds_toArray, List.set_cons_zero, List.set_cons_succ]
        refine anyT_one (i := 6) (o := { dst := some 45, op := Go.Op.call { callee := Go.Callee.value (Go.Operand.func 28), args := #[Go.Operand.tmp 39, Go.Operand.tmp 40, Go.Operand.tmp 41, Go.Operand.tmp 44], argTypes := #[26, 9, 3, 54] }, type := 61, pos := "law.go:145", after := #[{ on := 0, ground := Go.Ground.data }, { on := 1, ground := Go.Ground.data }, { on := 2, ground := Go.Ground.data }, { on := 5, ground := Go.Ground.data }, { on := 5, ground := Go.Ground.chain }], guard := none }) (by kernel_rfl) rfl (fun K' hK => ?_)
        go_simp
        refine (KL.out x1 hBx1).mono ?_
        rintro e x2 ⟨rfl, hbx2⟩
        have hBx2 := hBx1.trans (hbx2.mono hBx1.size)
        have hnx2 := (hbx2.block _ (Array.getElem?_eq_some_iff.1 hnx1).1).trans hnx1
        refine hK.out _ _ (fun _ => HS.out _ hBx2) ?_
        clear hK K'
        try simp only [Act.put, List.setIfInBounds_toArray, List.set_cons_zero, List.set_cons_succ]
        exact REST g x2 hBx2 hglx1 hnx2
    case rest =>
      intro g x hbx hgx hnx
      have c0 : x.cell? ⟨g, 0, none⟩ = some (.int .u64 0) := Lib.cell_of_heap hnx 0
      have c1 : x.cell? ⟨g, 1, none⟩ = some (.int .i64 0) := Lib.cell_of_heap hnx 1
      have f0 := Lib.frozen_of_heap hnx 0
      have f1 := Lib.frozen_of_heap hnx 1
      have hset := set_two hnx (.int .u64 (q1 : Int)) (.int .i64 (q2 : Int))
      obtain ⟨y, hy⟩ : ∃ y, (x.setCell ⟨g, 0, none⟩ (.int .u64 (q1 : Int))).setCell ⟨g, 1, none⟩ (.int .i64 (q2 : Int)) = y := ⟨_, rfl⟩
      rw [hy] at hset
      have hby : Below we.heap.size we y := KeptX.bel (m := we.heap.size) (b := g) hset.2 hbx (Nat.le_refl _) hgx
      have HSET := hid hset.1
      have HBY := hid hby
      clear hset hby hbx
      refine anyT_one (i := 8) (o := { dst := none, op := Go.Op.store 61 (Go.Operand.tmp 14) (Go.Operand.tmp 45), type := 0, pos := "law.go:145", after := #[{ on := 7, ground := Go.Ground.data }, { on := 6, ground := Go.Ground.data }, { on := 6, ground := Go.Ground.chain }, { on := 0, ground := Go.Ground.phase }, { on := 1, ground := Go.Ground.phase }, { on := 2, ground := Go.Ground.phase }, { on := 3, ground := Go.Ground.phase }, { on := 4, ground := Go.Ground.phase }, { on := 5, ground := Go.Ground.phase }, { on := 6, ground := Go.Ground.phase }, { on := 7, ground := Go.Ground.phase }], guard := none }) (by kernel_rfl) rfl (fun K' hK => ?_)
      go_simp
      try rw [hy]
      refine hK.out _ _ (fun h => absurd h (by decide)) ?_
      clear hK K' c0 c1 f0 f1 hy hnx
      try simp only [Act.put, List.setIfInBounds_toArray, List.set_cons_zero, List.set_cons_succ]
      refine anyT_done (by kernel_rfl) ?_ _
      have HBF := hid (HBE.out.trans (HBY.out.mono HBE.out.size))
      have hp := (HBY.out.block _ (Array.getElem?_eq_some_iff.1 HN4.out).1).trans HN4.out
      have a0 : y.cell? ⟨w3.heap.size, 0, none⟩ = some (.int .u64 (p1 : Int)) := Lib.cell_of_heap hp 0
      have a1 : y.cell? ⟨w3.heap.size, 1, none⟩ = some (.int .i64 (p2 : Int)) := Lib.cell_of_heap hp 1
      have b0 : y.cell? ⟨g, 0, none⟩ = some (.int .u64 (q1 : Int)) := Lib.cell_of_heap HSET.out 0
      have b1 : y.cell? ⟨g, 1, none⟩ = some (.int .i64 (q2 : Int)) := Lib.cell_of_heap HSET.out 1
      have hle : (q2 : Int) ≤ (p2 : Int) := by have := HFW.out.1; omega
      have g1 : decide (q2 ≤ p2) = true := decide_eq_true HFW.out.1
      have KI := B1.In_any q1 may HLL.out hmay y
      rw [X7.in_of HLL.out HFW.out.2.2] at KI
      have KI := hid KI
      clear hp
      by_cases hlt : q2 < p2
      · have g2 : (q2 : Int) < (p2 : Int) := by omega
        have g3 : decide (q2 < p2) = true := decide_eq_true hlt
        go_wp2_with fail
        refine KI.out.mono ?_
        rintro e w' ⟨rfl, rfl⟩
        go_wp2_with fail
        go_ret
        exact ⟨rfl, HBF.out⟩
      · have g2 : ¬ (q2 : Int) < (p2 : Int) := by omega
        have g3 : decide (q2 < p2) = false := decide_eq_false hlt
        have KJ := B1.In_any q1 p1 HLL.out HLA.out y
        rw [X7.in_of HLL.out (HFW.out.2.1.resolve_left hlt)] at KJ
        have KJ := hid KJ
        go_wp2_with fail
        refine KI.out.mono ?_
        rintro e w' ⟨rfl, rfl⟩
        go_wp2_with fail
        refine KJ.out.mono ?_
        rintro e w' ⟨rfl, rfl⟩
        go_wp2_with fail
        go_ret
        exact ⟨rfl, HBF.out⟩
end Go.Proofs.YtochckefnjobhaaGreatDoor
