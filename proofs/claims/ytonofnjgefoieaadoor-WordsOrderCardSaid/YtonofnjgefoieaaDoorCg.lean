/- word.read, at every text that is not empty. -/
import Derived.Test.YtonofnjgefoieaaDoorCf
import Derived.Lib.AtoiErrMem
namespace Go.Proofs.YtonofnjgefoieaaDoor
open Go Go.RowKit Go.Lib Go.Proofs.W8
set_option linter.unusedVariables false

/-- What read hands back. -/
def rdV : St → Value
  | .wd k t n long => .tuple #[wordV (k : Int) (bs t) (n : Int) 0, .int .i64 (long : Int), .int .i64 0]
  | .bad e => .tuple #[wordV 0 ⟨#[]⟩ 0 0, .int .i64 0, .int .i64 (e : Int)]
  | _ => .tuple #[]

theorem extract_take (s : ByteArray) (n : Nat) : s.extract 0 n = bs (s.data.toList.take n) := by
  apply Go.WideShapes.bytes_inj
  simp [bs, ByteArray.data_extract, Array.toList_extract, List.extract_eq_take_drop]

theorem decFrom_digits : ∀ (l : List UInt8) (a : Nat), (∀ b ∈ l, dg b = true) → Lib.decFrom a l = some (l.foldl (fun n b => n * 10 + (b.toNat - 48)) a)
  | [], a, _ => rfl
  | b :: l, a, h => by
    have hb : 48 ≤ b.toNat ∧ b.toNat ≤ 57 := by have := h b (by simp); simpa [W8.dg] using this
    have hv : Lib.digitVal b = some (b.toNat - 48) := by unfold Lib.digitVal; rw [if_pos hb]
    simp only [Lib.decFrom, hv, List.foldl_cons]
    exact decFrom_digits l _ (fun c hc => h c (by simp [hc]))

theorem atoi_digits (l : List UInt8) (h0 : l ≠ []) (h : ∀ b ∈ l, dg b = true) : Lib.atoi l = some ((numL l : Nat) : Int) := by
  cases l with
  | nil => exact absurd rfl h0
  | cons b t =>
    have hb : 48 ≤ b.toNat ∧ b.toNat ≤ 57 := by have := h b (by simp); simpa [W8.dg] using this
    have e1 : (b == 45) = false := by rw [beq_eq_false_iff_ne]; intro e; subst e; simp at hb
    have e2 : (b == 43) = false := by rw [beq_eq_false_iff_ne]; intro e; subst e; simp at hb
    have e3 : Lib.decNat (b :: t) = some (numL (b :: t)) := by
      unfold Lib.decNat
      rw [if_neg (by simp)]
      exact decFrom_digits _ 0 h
    simp [Lib.atoi, e1, e2, e3]

theorem runL_all_take (p : UInt8 → Bool) : ∀ l : List UInt8, ∀ b ∈ l.take (runL p l), p b = true
  | [], b, h => by simp at h
  | c :: l, b, h => by
    by_cases hc : p c = true
    · simp [runL, hc] at h
      rcases h with e | h
      · rw [e]; exact hc
      · exact runL_all_take p l b h
    · simp [runL, hc] at h

theorem Atoi_digits (l : List UInt8) (w : World) (h0 : l ≠ []) (h9 : l.length ≤ 9) (h : ∀ b ∈ l, dg b = true) :
    Calls Tryd.prog 28 #[.string (bs l)] w fun e w' => e = .returned (.tuple #[.int .i64 ((numL l : Nat) : Int), .nilIface]) ∧ Below w.heap.size w w' := by
  refine (Tryd.strconv_Atoi (bs l) _ (by show l.toArray.size ≤ 18; simp; omega) (atoi_digits l h0 h) w).mono ?_
  rintro e w' ⟨rfl, t, rfl⟩
  exact ⟨rfl, Lib.bytesWorld_below w 5 t⟩

theorem rd_head (s : ByteArray) (h : 0 < s.size) : rd s.data.toList =
    if lt (s[0]'h) then (if 32 < runL nm s.data.toList then .bad 4 else .wd 0 (s.data.toList.take (runL nm s.data.toList)) 0 (runL nm s.data.toList))
    else if dg (s[0]'h) then (if 9 < runL dg s.data.toList then .bad 4 else .wd 1 (s.data.toList.take (runL dg s.data.toList)) (numL (s.data.toList.take (runL dg s.data.toList))) (runL dg s.data.toList))
    else if mk (s[0]'h) then .wd 2 [s[0]'h] 0 1
    else if (s[0]'h).toNat = 47 then (match rx (s.data.toList.drop 1) with | some x => .wd 3 x.1 0 (x.2 + 1) | none => .bad 5)
    else .bad 5 := by
  have e : s.data.toList = s[0]'h :: s.data.toList.drop 1 := by have := drop_at s 0 h; simpa using this
  generalize hL : s.data.toList = L at *
  cases L with
  | nil => cases e
  | cons b t =>
    have hb : b = s[0]'h := by injection e
    subst hb
    rfl

theorem rxV_rd (l : List UInt8) : rxV l = rdV (match rx (l.drop 1) with | some x => .wd 3 x.1 0 (x.2 + 1) | none => .bad 5) := by
  unfold rxV
  cases rx (l.drop 1) with
  | none => rfl
  | some x => rfl

theorem below_drewN {B : Nat} {w w' : World} (h : Below B w w') (n : Nat) : Below B w (w'.drewN n) := by
  induction n with
  | zero => exact h
  | succ n ih => exact ih.drew

set_option maxRecDepth 100000 in
set_option maxHeartbeats 4000000 in
theorem read_any (s : ByteArray) (w : World) (hs : s.size ≤ 1000000) (hp : 0 < s.size) :
    Calls Tryd.prog 25 #[.string s] w fun e w' => e = .returned (rdV (rd s.data.toList)) ∧ Below w.heap.size w w' := by
  have hrd := rd_head s hp
  have kl := hid fun w => letter_any ((s[0]'hp).toNat : Int) w
  have kd := hid fun w => digit_any ((s[0]'hp).toNat : Int) w
  have km := hid fun w => Marks_any (s[0]'hp) w
  have k1 := hid fun w => run_names s w (by unfold maxLen; omega)
  have k2 := hid fun w => run_digits s w (by unfold maxLen; omega)
  have hn := runL_le nm s.data.toList
  have hd := runL_le dg s.data.toList
  have hlen : s.data.toList.length = s.size := rfl
  rw [hlen] at hn hd
  have HT := hid fun n => extract_take s n
  have hb256 := byte_lt (s[0]'hp)
  rw [ltI_nat] at kl
  rw [dgI_nat] at kd
  have hx0 : (s[0]'hp).toNat < 256 := (s[0]'hp).toNat_lt
  have cz0 : (w.alloc (.cells zeroW 32)).cell? ⟨w.heap.size, 0, none⟩ = some (.int .i64 0) := Lib.cell_of_heap (alloc_new w _) 0
  have cz1 : (w.alloc (.cells zeroW 32)).cell? ⟨w.heap.size, 1, none⟩ = some (.string { data := #[] }) := Lib.cell_of_heap (alloc_new w _) 1
  have cz2 : (w.alloc (.cells zeroW 32)).cell? ⟨w.heap.size, 2, none⟩ = some (.int .i64 0) := Lib.cell_of_heap (alloc_new w _) 2
  have cz3 : (w.alloc (.cells zeroW 32)).cell? ⟨w.heap.size, 3, none⟩ = some (.int .i64 0) := Lib.cell_of_heap (alloc_new w _) 3
  have hb0 : Below w.heap.size w (w.alloc (.cells zeroW 32)) := (Below.refl _ w).alloc (Nat.le_refl _) _
  cases hlt : lt (s[0]'hp) with
  | true =>
    rw [hlt] at hrd kl
    simp only [if_true] at hrd
    by_cases h32 : 32 < runL nm s.data.toList
    · rw [if_pos h32] at hrd
      have HV : Hid (rdV (rd s.data.toList) = .tuple #[wordV 0 ⟨#[]⟩ 0 0, .int .i64 0, .int .i64 4]) := by show _ = _; rw [hrd]; rfl
      clear hrd hlt hd hlen kd km k2 HT
      generalize runL nm s.data.toList = L at *
      go_enter Tryd.func25, Tryd.ntmps25
      go_wp2_with fail
      refine (kl.out _).mono ?_
      rintro e w1 ⟨rfl, rfl⟩
      go_wp2_with fail
      refine (k1.out _).mono ?_
      rintro e w2 ⟨rfl, hb2⟩
      have hc := Below.block hb2 w.heap.size (by simp)
      rw [alloc_new] at hc
      have dz0 : w2.cell? ⟨w.heap.size, 0, none⟩ = some (.int .i64 0) := Lib.cell_of_heap hc 0
      have dz1 : w2.cell? ⟨w.heap.size, 1, none⟩ = some (.string { data := #[] }) := Lib.cell_of_heap hc 1
      have dz2 : w2.cell? ⟨w.heap.size, 2, none⟩ = some (.int .i64 0) := Lib.cell_of_heap hc 2
      have dz3 : w2.cell? ⟨w.heap.size, 3, none⟩ = some (.int .i64 0) := Lib.cell_of_heap hc 3
      have df : ∀ o, w2.frozen? ⟨w.heap.size, o, none⟩ = false := fun o => Lib.frozen_of_heap hc o
      have hb3 : Below w.heap.size w w2 := hb0.trans (hb2.mono (by simp))
      clear hb2 hb0 hc cz0 cz1 cz2 cz3
      go_wp2_with fail
      exact bodyPost_ret (v := .tuple #[wordV 0 ⟨#[]⟩ 0 0, .int .i64 0, .int .i64 4]) (by simp [results, Tryd.results25, go_sem, dz0, dz1, dz2, dz3]) rfl ⟨by rw [HV.out], (((hb3.setCell (by simp) _).setCell (by simp) _).setCell (by simp) _).setCell (by simp) _⟩
    · rw [if_neg h32] at hrd
      have HV : Hid (rdV (rd s.data.toList) = .tuple #[wordV 0 (s.extract 0 (runL nm s.data.toList)) 0 0, .int .i64 (runL nm s.data.toList : Nat), .int .i64 0]) := by show _ = _; rw [hrd, extract_take]; rfl
      clear hrd hlt hd hlen kd km k2 HT
      generalize runL nm s.data.toList = L at *
      go_enter Tryd.func25, Tryd.ntmps25
      go_wp2_with fail
      refine (kl.out _).mono ?_
      rintro e w1 ⟨rfl, rfl⟩
      go_wp2_with fail
      refine (k1.out _).mono ?_
      rintro e w2 ⟨rfl, hb2⟩
      have hc := Below.block hb2 w.heap.size (by simp)
      rw [alloc_new] at hc
      have dz0 : w2.cell? ⟨w.heap.size, 0, none⟩ = some (.int .i64 0) := Lib.cell_of_heap hc 0
      have dz1 : w2.cell? ⟨w.heap.size, 1, none⟩ = some (.string { data := #[] }) := Lib.cell_of_heap hc 1
      have dz2 : w2.cell? ⟨w.heap.size, 2, none⟩ = some (.int .i64 0) := Lib.cell_of_heap hc 2
      have dz3 : w2.cell? ⟨w.heap.size, 3, none⟩ = some (.int .i64 0) := Lib.cell_of_heap hc 3
      have df : ∀ o, w2.frozen? ⟨w.heap.size, o, none⟩ = false := fun o => Lib.frozen_of_heap hc o
      have hb3 : Below w.heap.size w w2 := hb0.trans (hb2.mono (by simp))
      clear hb2 hb0 hc cz0 cz1 cz2 cz3
      go_wp2_with fail
      exact bodyPost_ret (v := .tuple #[wordV 0 (s.extract 0 L) 0 0, .int .i64 (L : Int), .int .i64 0]) (by simp [results, Tryd.results25, go_sem, dz0, dz1, dz2, dz3]) rfl ⟨by rw [HV.out], (((hb3.setCell (by simp) _).setCell (by simp) _).setCell (by simp) _).setCell (by simp) _⟩
  | false =>
    rw [hlt] at hrd kl
    simp only [Bool.false_eq_true, if_false] at hrd
    clear hlt hn k1
    cases hdt : dg (s[0]'hp) with
    | true =>
      rw [hdt] at hrd kd
      simp only [if_true] at hrd
      by_cases h9 : 9 < runL dg s.data.toList
      · rw [if_pos h9] at hrd
        have HV : Hid (rdV (rd s.data.toList) = .tuple #[wordV 0 ⟨#[]⟩ 0 0, .int .i64 0, .int .i64 4]) := by show _ = _; rw [hrd]; rfl
        clear hrd hdt hlen km HT
        generalize runL dg s.data.toList = L at *
        go_enter Tryd.func25, Tryd.ntmps25
        go_wp2_with fail
        refine (kl.out _).mono ?_
        rintro e w1 ⟨rfl, rfl⟩
        go_wp2_with fail
        refine (kd.out _).mono ?_
        rintro e w1 ⟨rfl, rfl⟩
        go_wp2_with fail
        refine (k2.out _).mono ?_
        rintro e w2 ⟨rfl, hb2⟩
        have hc := Below.block hb2 w.heap.size (by simp)
        rw [alloc_new] at hc
        have dz0 : w2.cell? ⟨w.heap.size, 0, none⟩ = some (.int .i64 0) := Lib.cell_of_heap hc 0
        have dz1 : w2.cell? ⟨w.heap.size, 1, none⟩ = some (.string { data := #[] }) := Lib.cell_of_heap hc 1
        have dz2 : w2.cell? ⟨w.heap.size, 2, none⟩ = some (.int .i64 0) := Lib.cell_of_heap hc 2
        have dz3 : w2.cell? ⟨w.heap.size, 3, none⟩ = some (.int .i64 0) := Lib.cell_of_heap hc 3
        have df : ∀ o, w2.frozen? ⟨w.heap.size, o, none⟩ = false := fun o => Lib.frozen_of_heap hc o
        have hb3 : Below w.heap.size w w2 := hb0.trans (hb2.mono (by simp))
        clear hb2 hb0 hc cz0 cz1 cz2 cz3
        go_wp2_with fail
        exact bodyPost_ret (v := .tuple #[wordV 0 ⟨#[]⟩ 0 0, .int .i64 0, .int .i64 4]) (by simp [results, Tryd.results25, go_sem, dz0, dz1, dz2, dz3]) rfl ⟨by rw [HV.out], (((hb3.setCell (by simp) _).setCell (by simp) _).setCell (by simp) _).setCell (by simp) _⟩
      · rw [if_neg h9] at hrd
        have hone : 1 ≤ runL dg s.data.toList := by
          have e : s.data.toList = s[0]'hp :: s.data.toList.drop 1 := by have := drop_at s 0 hp; simpa using this
          rw [e]; exact runL_pos hdt
        have ka := hid fun w => Atoi_digits (s.data.toList.take (runL dg s.data.toList)) w (by
          intro e
          have : (s.data.toList.take (runL dg s.data.toList)).length = 0 := by rw [e]; rfl
          rw [List.length_take] at this; omega) (by rw [List.length_take]; omega) (runL_all_take dg _)
        rw [← extract_take] at ka
        have HV : Hid (rdV (rd s.data.toList) = .tuple #[wordV 1 (s.extract 0 (runL dg s.data.toList)) (numL (s.data.toList.take (runL dg s.data.toList)) : Nat) 0, .int .i64 (runL dg s.data.toList : Nat), .int .i64 0]) := by show _ = _; rw [hrd, extract_take]; rfl
        clear hrd hdt hlen km HT
        generalize numL (s.data.toList.take (runL dg s.data.toList)) = V at *
        generalize runL dg s.data.toList = L at *
        go_enter Tryd.func25, Tryd.ntmps25
        go_wp2_with fail
        refine (kl.out _).mono ?_
        rintro e w1 ⟨rfl, rfl⟩
        go_wp2_with fail
        refine (kd.out _).mono ?_
        rintro e w1 ⟨rfl, rfl⟩
        go_wp2_with fail
        refine (k2.out _).mono ?_
        rintro e w2' ⟨rfl, hb2'⟩
        go_wp2_with fail
        refine (ka.out _).mono ?_
        rintro e w2 ⟨rfl, hb2''⟩
        have hb2 : Below (w.alloc (.cells zeroW 32)).heap.size (w.alloc (.cells zeroW 32)) w2 := hb2'.trans (hb2''.mono hb2'.size)
        have hc := Below.block hb2 w.heap.size (by simp)
        rw [alloc_new] at hc
        have dz0 : w2.cell? ⟨w.heap.size, 0, none⟩ = some (.int .i64 0) := Lib.cell_of_heap hc 0
        have dz1 : w2.cell? ⟨w.heap.size, 1, none⟩ = some (.string { data := #[] }) := Lib.cell_of_heap hc 1
        have dz2 : w2.cell? ⟨w.heap.size, 2, none⟩ = some (.int .i64 0) := Lib.cell_of_heap hc 2
        have dz3 : w2.cell? ⟨w.heap.size, 3, none⟩ = some (.int .i64 0) := Lib.cell_of_heap hc 3
        have df : ∀ o, w2.frozen? ⟨w.heap.size, o, none⟩ = false := fun o => Lib.frozen_of_heap hc o
        have hb3 : Below w.heap.size w w2 := hb0.trans (hb2.mono (by simp))
        clear hb2 hb2' hb2'' hb0 hc cz0 cz1 cz2 cz3
        go_wp2_with fail
        exact bodyPost_ret (v := .tuple #[wordV 1 (s.extract 0 L) (V : Int) 0, .int .i64 (L : Int), .int .i64 0]) (by simp [results, Tryd.results25, go_sem, dz0, dz1, dz2, dz3]) rfl ⟨by rw [HV.out], (((hb3.setCell (by simp) _).setCell (by simp) _).setCell (by simp) _).setCell (by simp) _⟩
    | false =>
      rw [hdt] at hrd kd
      simp only [Bool.false_eq_true, if_false] at hrd
      clear hdt hd k2
      cases hmt : mk (s[0]'hp) with
      | true =>
        rw [hmt] at hrd km
        simp only [if_true] at hrd
        have HV : Hid (rdV (rd s.data.toList) = .tuple #[wordV 2 (s.extract 0 1) 0 0, .int .i64 1, .int .i64 0]) := by
          show _ = _
          rw [hrd, extract_take]
          have e : s.data.toList = s[0]'hp :: s.data.toList.drop 1 := by have := drop_at s 0 hp; simpa using this
          rw [e]; rfl
        clear hrd hmt hlen HT
        go_enter Tryd.func25, Tryd.ntmps25
        go_wp2_with fail
        refine (kl.out _).mono ?_
        rintro e w1 ⟨rfl, rfl⟩
        go_wp2_with fail
        refine (kd.out _).mono ?_
        rintro e w1 ⟨rfl, rfl⟩
        go_wp2_with fail
        refine (km.out _).mono ?_
        rintro e w1 ⟨rfl, n, rfl⟩
        go_wp2_with fail
        exact bodyPost_ret (v := .tuple #[wordV 2 (s.extract 0 1) 0 0, .int .i64 1, .int .i64 0]) (by simp [results, Tryd.results25, go_sem, cz0, cz1, cz2, cz3]) rfl ⟨by rw [HV.out], below_drewN ((((hb0.setCell (by simp) _).setCell (by simp) _).setCell (by simp) _).setCell (by simp) _) n⟩
      | false =>
        rw [hmt] at hrd km
        simp only [Bool.false_eq_true, if_false] at hrd
        by_cases h47 : (s[0]'hp).toNat = 47
        · rw [if_pos h47] at hrd
          have kr := hid fun w => readRegex_any s w hs hp
          rw [rxV_rd] at kr
          have t47 : (((s[0]'hp).toNat : Int) == 47) = true := by simp; omega
          cases hx : rx (s.data.toList.drop 1) with
          | none =>
            rw [hx] at kr hrd
            have HV : Hid (rdV (rd s.data.toList) = .tuple #[wordV 0 ⟨#[]⟩ 0 0, .int .i64 0, .int .i64 5]) := by show _ = _; rw [hrd]; rfl
            have kr2 : Hid (∀ w : World, Calls Tryd.prog 30 #[.string s] w fun e w' => e = .returned (.tuple #[wordV 0 ⟨#[]⟩ 0 0, .int .i64 0, .int .i64 5]) ∧ Below w.heap.size w w') := kr.out
            clear hrd hmt hlen HT h47 hx kr
            go_enter Tryd.func25, Tryd.ntmps25
            go_wp2_with fail
            refine (kl.out _).mono ?_
            rintro e w1 ⟨rfl, rfl⟩
            go_wp2_with fail
            refine (kd.out _).mono ?_
            rintro e w1 ⟨rfl, rfl⟩
            go_wp2_with fail
            refine (km.out _).mono ?_
            rintro e w1 ⟨rfl, n, rfl⟩
            go_wp2_with fail
            refine (kr2.out _).mono ?_
            rintro e w2 ⟨rfl, hb2'⟩
            have hb2 : Below (w.alloc (.cells zeroW 32)).heap.size (w.alloc (.cells zeroW 32)) w2 := (below_drewN (Below.refl _ _) n).trans (hb2'.mono (by simp))
            have hc := Below.block hb2 w.heap.size (by simp)
            rw [alloc_new] at hc
            have dz0 : w2.cell? ⟨w.heap.size, 0, none⟩ = some (.int .i64 0) := Lib.cell_of_heap hc 0
            have dz1 : w2.cell? ⟨w.heap.size, 1, none⟩ = some (.string { data := #[] }) := Lib.cell_of_heap hc 1
            have dz2 : w2.cell? ⟨w.heap.size, 2, none⟩ = some (.int .i64 0) := Lib.cell_of_heap hc 2
            have dz3 : w2.cell? ⟨w.heap.size, 3, none⟩ = some (.int .i64 0) := Lib.cell_of_heap hc 3
            have df : ∀ o, w2.frozen? ⟨w.heap.size, o, none⟩ = false := fun o => Lib.frozen_of_heap hc o
            have hb3 : Below w.heap.size w w2 := hb0.trans (hb2.mono (by simp))
            clear hb2 hb2' hb0 hc cz0 cz1 cz2 cz3
            go_wp2_with fail
            exact bodyPost_ret (v := .tuple #[wordV 0 ⟨#[]⟩ 0 0, .int .i64 0, .int .i64 5]) (by simp [results, Tryd.results25, go_sem, dz0, dz1, dz2, dz3]) rfl ⟨by rw [HV.out], (((hb3.setCell (by simp) _).setCell (by simp) _).setCell (by simp) _).setCell (by simp) _⟩
          | some x =>
            rw [hx] at kr hrd
            have HV : Hid (rdV (rd s.data.toList) = .tuple #[wordV 3 (bs x.1) 0 0, .int .i64 ((x.2 + 1 : Nat) : Int), .int .i64 0]) := by show _ = _; rw [hrd]; rfl
            have kr2 : Hid (∀ w : World, Calls Tryd.prog 30 #[.string s] w fun e w' => e = .returned (.tuple #[wordV 3 (bs x.1) 0 0, .int .i64 ((x.2 + 1 : Nat) : Int), .int .i64 0]) ∧ Below w.heap.size w w') := kr.out
            clear hrd hmt hlen HT h47 hx kr
            generalize ((x.2 + 1 : Nat) : Int) = L at *
            generalize bs x.1 = X at *
            go_enter Tryd.func25, Tryd.ntmps25
            go_wp2_with fail
            refine (kl.out _).mono ?_
            rintro e w1 ⟨rfl, rfl⟩
            go_wp2_with fail
            refine (kd.out _).mono ?_
            rintro e w1 ⟨rfl, rfl⟩
            go_wp2_with fail
            refine (km.out _).mono ?_
            rintro e w1 ⟨rfl, n, rfl⟩
            go_wp2_with fail
            refine (kr2.out _).mono ?_
            rintro e w2 ⟨rfl, hb2'⟩
            have hb2 : Below (w.alloc (.cells zeroW 32)).heap.size (w.alloc (.cells zeroW 32)) w2 := (below_drewN (Below.refl _ _) n).trans (hb2'.mono (by simp))
            have hc := Below.block hb2 w.heap.size (by simp)
            rw [alloc_new] at hc
            have dz0 : w2.cell? ⟨w.heap.size, 0, none⟩ = some (.int .i64 0) := Lib.cell_of_heap hc 0
            have dz1 : w2.cell? ⟨w.heap.size, 1, none⟩ = some (.string { data := #[] }) := Lib.cell_of_heap hc 1
            have dz2 : w2.cell? ⟨w.heap.size, 2, none⟩ = some (.int .i64 0) := Lib.cell_of_heap hc 2
            have dz3 : w2.cell? ⟨w.heap.size, 3, none⟩ = some (.int .i64 0) := Lib.cell_of_heap hc 3
            have df : ∀ o, w2.frozen? ⟨w.heap.size, o, none⟩ = false := fun o => Lib.frozen_of_heap hc o
            have hb3 : Below w.heap.size w w2 := hb0.trans (hb2.mono (by simp))
            clear hb2 hb2' hb0 hc cz0 cz1 cz2 cz3
            go_wp2_with fail
            exact bodyPost_ret (v := .tuple #[wordV 3 X 0 0, .int .i64 L, .int .i64 0]) (by simp [results, Tryd.results25, go_sem, dz0, dz1, dz2, dz3]) rfl ⟨by rw [HV.out], (((hb3.setCell (by simp) _).setCell (by simp) _).setCell (by simp) _).setCell (by simp) _⟩
        · rw [if_neg h47] at hrd
          have HV : Hid (rdV (rd s.data.toList) = .tuple #[wordV 0 ⟨#[]⟩ 0 0, .int .i64 0, .int .i64 5]) := by show _ = _; rw [hrd]; rfl
          have t47 : (((s[0]'hp).toNat : Int) == 47) = false := by simp; omega
          clear hrd hmt hlen HT h47
          go_enter Tryd.func25, Tryd.ntmps25
          go_wp2_with fail
          refine (kl.out _).mono ?_
          rintro e w1 ⟨rfl, rfl⟩
          go_wp2_with fail
          refine (kd.out _).mono ?_
          rintro e w1 ⟨rfl, rfl⟩
          go_wp2_with fail
          refine (km.out _).mono ?_
          rintro e w1 ⟨rfl, n, rfl⟩
          go_wp2_with fail
          exact bodyPost_ret (v := .tuple #[wordV 0 ⟨#[]⟩ 0 0, .int .i64 0, .int .i64 5]) (by simp [results, Tryd.results25, go_sem, cz0, cz1, cz2, cz3]) rfl ⟨by rw [HV.out], below_drewN ((((hb0.setCell (by simp) _).setCell (by simp) _).setCell (by simp) _).setCell (by simp) _) n⟩

end Go.Proofs.YtonofnjgefoieaaDoor
