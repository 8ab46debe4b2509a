/- The walk of the law WordsSpace. -/
import Derived.Test.YtonofnjgefoieaaDoorVa
import Derived.Deep.QuietTactic
import Derived.BigQuiet
namespace Go.Proofs.YtonofnjgefoieaaDoor
open Go Go.RowKit Go.Lib Go.Proofs.W8
set_option linter.unusedVariables false

/-- A row's words, cell by cell, in any later world. -/
def Cells4 (g : Nat) (L : List Wd) (w : World) : Prop := ∀ (wr : World), Below w.heap.size w wr → ∀ (j : Nat) (hj : j < L.length),
  wr.cell? ⟨g, j * 4, none⟩ = some (.int .i64 (L[j].kind : Int)) ∧ wr.cell? ⟨g, j * 4 + 1, none⟩ = some (.string (bs L[j].text)) ∧
  wr.cell? ⟨g, j * 4 + 2, none⟩ = some (.int .i64 (L[j].n : Int)) ∧ wr.cell? ⟨g, j * 4 + 3, none⟩ = some (.int .i64 (L[j].at_ : Int))

theorem WRow.opened {B : Nat} {v : Value} {L : List Wd} {w : World} (h : WRow B v L w) : ∃ a cap, v = .slice a L.length cap ∧ L.length ≤ cap ∧ (L ≠ [] → ∃ g, a = some ⟨g, 0, none⟩ ∧ Cells4 g L w ∧ g < w.heap.size ∧ B ≤ g) := by
  by_cases h0 : L = []
  · subst h0
    rcases h.2 with ⟨rfl, h1⟩ | ⟨g, cap, cur, rfl, hB, hg, hc, hcm, hs, ht⟩
    · exact ⟨none, 0, rfl, Nat.le_refl _, fun h => absurd rfl h⟩
    · exact ⟨some ⟨g, 0, none⟩, cap, rfl, hc, fun h => absurd rfl h⟩
  · obtain ⟨g, cap, rfl, hB, hc, hcm, hcell⟩ := h.at h0
    have hg := (h.lt g rfl).2
    refine ⟨some ⟨g, 0, none⟩, cap, rfl, hc, fun _ => ⟨g, rfl, ?_, hg, hB⟩⟩
    intro wr hb j hj
    have e : ∀ o, o < 4 → wr.cell? ⟨g, j * 4 + o, none⟩ = (wc1 L[j])[o]? := fun o ho => (hb.cell (p := ⟨g, j * 4 + o, none⟩) hg).trans (hcell j hj o ho)
    exact ⟨e 0 (by decide), e 1 (by decide), e 2 (by decide), e 3 (by decide)⟩

theorem Cells4.below {g : Nat} {L : List Wd} {w w' : World} (h : Cells4 g L w) (hb : Below w.heap.size w w') : Cells4 g L w' := fun wr h2 j hj => h wr (hb.trans (h2.mono hb.size)) j hj

theorem ge_at (r : List Wd × Nat × Nat) (s : Nat) (h : r.2.1 ≠ 0) : s ≤ (shR s [] r).2.2 := by simp [shR, h]

theorem space_text (t m : ByteArray) : (t ++ { data := #[32, 35, 32] } ++ m).data.toList = t.data.toList ++ 32 :: 35 :: 32 :: m.data.toList := by
  simp [ByteArray.data_append]
theorem blank_text (t : ByteArray) : (({ data := #[9, 32, 13] } : ByteArray) ++ t).data.toList = 9 :: 32 :: 13 :: t.data.toList := by
  simp [ByteArray.data_append]
theorem wrap_in (a : Int) (h0 : -9223372036854775808 ≤ a) (h1 : a ≤ 9223372036854775807) : IntKind.i64.wrap a = a := IntWalk.i64_in _ (by omega)

def Clean (m : ByteArray) (k : Nat) : Prop := ∀ b ∈ m.data.toList.take k, no10 b = true

theorem Clean.snoc {m : ByteArray} {k : Nat} (h : Clean m k) (hk : k < m.size) (hb : (m[k]'hk).toNat ≠ 10) : Clean m (k + 1) := by
  intro b hb2
  have e : m.data.toList.take (k + 1) = m.data.toList.take k ++ [m[k]'hk] := by rw [List.take_succ_eq_append_getElem (by simpa using hk)]; rfl
  rw [e] at hb2
  rcases List.mem_append.1 hb2 with h2 | h2
  · exact h b h2
  · simp at h2; subst h2; simp [no10, hb]
theorem Clean.all {m : ByteArray} {k : Nat} (h : Clean m k) (hk : m.size ≤ k) : ∀ b ∈ 32 :: m.data.toList, no10 b = true := by
  intro b hb
  rcases List.mem_cons.1 hb with rfl | hb
  · rfl
  · have e : m.data.toList.take k = m.data.toList := List.take_of_length_le (by simpa using hk)
    exact h b (by rw [e]; exact hb)

theorem kt_get {A B : List Wd} (h : ktL A = ktL B) : A.length = B.length ∧ ∀ j (ha : j < A.length) (hb : j < B.length), A[j].kind = B[j].kind ∧ A[j].text = B[j].text := by
  have hl : A.length = B.length := by have := congrArg List.length h; simpa [ktL] using this
  refine ⟨hl, fun j ha hb => ?_⟩
  have h2 : (ktL A)[j]? = (ktL B)[j]? := by rw [h]
  simp [ktL, ha, hb] at h2
  exact h2

theorem Wr_len {l : List UInt8} {a : Nat} {acc : List Wd} {r} (h : Wr l a acc r) : r.1.length ≤ acc.length + l.length + 1 := by
  induction h with
  | done a acc => have := enL_len acc a; simp; omega
  | skip l a acc k r hl h h1 ih => have := stp_skip h; simp at ih; omega
  | nl l a acc r hl h h1 ih =>
    have h2 := enL_len acc a
    have h3 : 1 ≤ l.length := by rcases l with _ | ⟨b, t⟩; exact absurd rfl hl; simp
    simp at ih; omega
  | wd l a acc k t n long r hl h h1 ih => have := stp_wd h; simp at ih; omega
  | bad l a acc e hl h => simp; omega
theorem words_len (l : List UInt8) (h : l.length ≤ 400) : (words l).1.length ≤ l.length + 1 := by
  have := Wr_len (words_Wr (l := l) (by omega))
  simpa using this
theorem words_at (l : List UInt8) (h : l.length ≤ 400) : ∀ x ∈ (words l).1, x.at_ ≤ 400 := by
  intro x hx
  obtain ⟨j, hj, rfl⟩ := List.getElem_of_mem hx
  have := ((words_good l h).1 j hj).within
  omega

/-- The words of three bytes later. -/
theorem shR3 (L : List Wd) (E A : Nat) : ∃ (K : List Wd) (A3 : Nat), shR 3 [] (L, E, A) = (K, E, A3) ∧ K.length = L.length ∧ (E ≠ 0 → 3 ≤ A3) ∧
    ∀ j (hj : j < L.length) (hk : j < K.length), K[j].kind = L[j].kind ∧ K[j].text = L[j].text ∧ K[j].at_ = L[j].at_ + 3 := by
  refine ⟨L.map (shW 3), if E = 0 then 0 else A + 3, rfl, by simp, fun h => by rw [if_neg h]; omega, fun j hj hk => ?_⟩
  simp [shW]

set_option maxRecDepth 100000 in
set_option maxHeartbeats 8000000 in
theorem space_walk (t m : ByteArray) (w : World) (hm : t.size ≤ maxLen) (hm2 : m.size ≤ maxLen) : Calls Tryd.prog 7 #[.string t, .string m] w fun e w' => e = .returned (.bool true) ∧ Below w.heap.size w w' := by
  have kw := hid fun w => word_works w
  by_cases hs : t.size ≤ 400 ∧ m.size ≤ 400
  · obtain ⟨hs1, hs2⟩ := hs
    have i1 : (t.size : Int) ≤ 400 := by omega
    have i2 : (m.size : Int) ≤ 400 := by omega
    clear hm hm2
    go_enter Tryd.func7, Tryd.ntmps7
    go_wp2_with fail
    refine (kw.out _).mono ?_
    rintro e w1 ⟨rfl, hb1⟩
    go_wp2_with fail
    go_loop [6] (fun i => ∃ k : Nat, k ≤ m.size ∧ i = .int .i64 (k : Int) ∧ Clean m k) (fun i => m.size - (Go.RowKit.intOf i).toNat)
    case atStart => exact ⟨0, Nat.zero_le _, rfl, by intro b hb; simp at hb⟩
    case round =>
      obtain ⟨k, hk, rfl, hcl⟩ := hrel
      by_cases hlt : k < m.size
      · have hb256 := byte_lt (m[k]'hlt)
        by_cases h10 : (m[k]'hlt).toNat = 10
        · have t10 : (((m[k]'hlt).toNat : Int) == 10) = true := by simp; omega
          clear h10
          go_wp2_with fail
          go_ret
          exact ⟨rfl, hb1⟩
        · have t10 : (((m[k]'hlt).toNat : Int) == 10) = false := by simp; omega
          have HC := hid (hcl.snoc hlt h10)
          clear h10
          go_wp2_with fail
          go_round
          case rel => exact ⟨k + 1, by omega, by go_num, HC.out⟩
          case measure => simp [Go.RowKit.intOf]; omega
      · have hall := hcl.all (by omega)
        have k1 := hid fun w => Words_any t w (by unfold maxLen; omega)
        have hsz2 : (t ++ { data := #[32, 35, 32] } ++ m).size = t.size + 3 + m.size := by simp [ByteArray.size_append]; rfl
        have hsz3 : (({ data := #[9, 32, 13] } : ByteArray) ++ t).size = 3 + t.size := by simp [ByteArray.size_append]; rfl
        have k2 := hid fun w => Words_any (t ++ { data := #[32, 35, 32] } ++ m) w (by unfold maxLen; omega)
        have k3 := hid fun w => Words_any ({ data := #[9, 32, 13] } ++ t) w (by unfold maxLen; omega)
        have htl : t.data.toList.length = t.size := rfl
        have hml : m.data.toList.length = m.size := rfl
        rw [space_text] at k2
        rw [blank_text, words_blanks _ (by omega)] at k3
        have hsign := words_sign t.data.toList (32 :: m.data.toList) (by omega) (by simp; omega) hall
        have hLb : (words t.data.toList).1.length ≤ 401 := by have := words_len t.data.toList (by omega); omega
        have hat : ∀ x ∈ (words t.data.toList).1, x.at_ ≤ 400 := words_at _ (by omega)
        generalize words t.data.toList = R at *
        generalize words (t.data.toList ++ 32 :: 35 :: 32 :: m.data.toList) = R2 at *
        obtain ⟨L, E, A⟩ := R
        obtain ⟨M, F, A2⟩ := R2
        simp only at hsign hLb hat
        obtain ⟨K, A3, hK, hKl, hA3, hKj⟩ := shR3 L E A
        rw [hK] at k3
        have HK := hid hKj
        have HKL := hid hKl
        clear hK hKj hKl
        have HSI := hid hsign
        have HAT := hid hat
        have hge : (m.size : Int) ≤ (k : Int) := by omega
        clear hcl hall htl hml hk hlt hsz2 hsz3 hsign hat
        go_wp2_with fail
        refine (k1.out _).mono ?_
        rintro e w2 ⟨v1, rfl, hr1, hb2⟩
        replace hb2 := hb1.trans (hb2.mono hb1.size)
        have HR1 := hid hr1.opened
        clear hr1
        go_wp2_with fail
        refine (k2.out _).mono ?_
        rintro e w3 ⟨v2, rfl, hr2, hb3⟩
        have HR2 := hid hr2.opened
        clear hr2
        go_wp2_with fail
        refine (k3.out _).mono ?_
        rintro e w4 ⟨v3, rfl, hr3, hb4⟩
        obtain ⟨a3, cap3, rfl, hc3, ho3⟩ := hr3.opened
        obtain ⟨a1, cap1, rfl, hc1, ho1⟩ := HR1.out
        obtain ⟨a2, cap2, rfl, hc2, ho2⟩ := HR2.out
        have H1 : Hid (L ≠ [] → ∃ g, a1 = some ⟨g, 0, none⟩ ∧ Cells4 g L w4) := fun h => by
          obtain ⟨g, e, h2, _⟩ := ho1 h
          exact ⟨g, e, (h2.below hb3).below hb4⟩
        have H2 : Hid (M ≠ [] → ∃ g, a2 = some ⟨g, 0, none⟩ ∧ Cells4 g M w4) := fun h => by
          obtain ⟨g, e, h2, _⟩ := ho2 h
          exact ⟨g, e, h2.below hb4⟩
        have H3 : Hid (K ≠ [] → ∃ g, a3 = some ⟨g, 0, none⟩ ∧ Cells4 g K w4) := fun h => by
          obtain ⟨g, e, h2, _⟩ := ho3 h
          exact ⟨g, e, h2⟩
        have hb5 : Below w.heap.size w w4 := (hb2.trans (hb3.mono hb2.size)).trans (hb4.mono (Nat.le_trans hb2.size hb3.size))
        have HKL2 := HKL.out
        rw [HKL2] at hc3
        rw [HKL2]
        clear hr3 HR1 HR2 ho1 ho2 ho3 hb1 hb2 hb3 hb4 HKL2 k1 k2 k3 kw
        go_wp2_with fail
        go_loopw [16] (fun i wr => ∃ j : Nat, j ≤ L.length ∧ i = .int .i64 (j : Int) ∧ Below w4.heap.size w4 wr) (fun i _ => L.length - (Go.RowKit.intOf i).toNat)
        case atStart => exact ⟨0, Nat.zero_le _, rfl, Below.refl _ _⟩
        case round =>
          obtain ⟨j, hj, rfl, hbr⟩ := hrel
          by_cases hlt : j < L.length
          · obtain ⟨g1, rfl, hC1⟩ := H1.out (by intro e; rw [e] at hlt; simp at hlt)
            obtain ⟨g3, rfl, hC3⟩ := H3.out (by intro e; have := HKL.out; rw [e] at this; simp at this; omega)
            have hat := HAT.out L[j] (List.getElem_mem hlt)
            obtain ⟨p1, p2, p3, p4⟩ := hC1 wr hbr j hlt
            obtain ⟨q1, q2, q3, q4⟩ := hC3 wr hbr j (by rw [HKL.out]; exact hlt)
            obtain ⟨e1, e2, e3⟩ := HK.out j hlt (by rw [HKL.out]; exact hlt)
            rw [e1] at q1
            rw [e2] at q2
            rw [e3] at q4
            have hw := wrap_in ((L[j].at_ : Int) + 3) (by omega) (by omega)
            have hi0 : (0 : Int) ≤ (j : Int) := by omega
            have hi1 : (j : Int) < (L.length : Int) := by omega
            clear e1 e2 e3 hC1 hC3
            generalize L[j] = x at *
            go_wp2_with fail
            go_quiet (fail)
            go_wp2_with fail
            go_roundw
            case rel => exact ⟨j + 1, by omega, by go_num, below_drewN hbr _⟩
            case measure => simp [Go.RowKit.intOf]; omega
          · by_cases hE : E = 0
            · subst hE
              obtain ⟨hF, hkt⟩ := HSI.out rfl
              subst hF
              obtain ⟨hml, hmj⟩ := kt_get hkt
              have HMJ := hid hmj
              have HML := hid hml
              rw [hml] at hc2
              rw [hml]
              have hz := hbr.size
              clear hkt hmj hml HSI hA3 HK H3 HKL HAT
              go_wp2_with fail
              go_loopw [17] (fun i wq => ∃ j : Nat, j ≤ L.length ∧ i = .int .i64 (j : Int) ∧ Below w4.heap.size w4 wq) (fun i _ => L.length - (Go.RowKit.intOf i).toNat)
              case atStart => exact ⟨0, Nat.zero_le _, rfl, hbr⟩
              case round =>
                obtain ⟨j2, hj2, rfl, hbq⟩ := hrel
                by_cases hlt2 : j2 < L.length
                · obtain ⟨g1, rfl, hC1⟩ := H1.out (by intro e; rw [e] at hlt2; simp at hlt2)
                  obtain ⟨g2, rfl, hC2⟩ := H2.out (by intro e; have := HML.out; rw [e] at this; simp at this; omega)
                  obtain ⟨p1, p2, p3, p4⟩ := hC1 _ hbq j2 hlt2
                  obtain ⟨q1, q2, q3, q4⟩ := hC2 _ hbq j2 (by rw [HML.out]; exact hlt2)
                  obtain ⟨e1, e2⟩ := HMJ.out j2 (by rw [HML.out]; exact hlt2) hlt2
                  rw [e1] at q1
                  rw [e2] at q2
                  have hi0 : (0 : Int) ≤ (j2 : Int) := by omega
                  have hi1 : (j2 : Int) < (L.length : Int) := by omega
                  clear e1 e2 hC1 hC2 p3 p4 q3 q4
                  generalize L[j2] = x at *
                  go_wp2_with fail
                  go_quiet (fail)
                  go_wp2_with fail
                  go_roundw
                  case rel => exact ⟨j2 + 1, by omega, by go_num, below_drewN hbq _⟩
                  case measure => simp [Go.RowKit.intOf]; omega
                · go_wp2_with fail
                  go_ret
                  exact ⟨rfl, hb5.trans (hbq.mono hb5.size)⟩
            · have hE2 : ((E : Int) != 0) = true := by simp; omega
              have h3 := hA3 hE
              have h4 : (3 : Int) ≤ (A3 : Int) := by omega
              clear hE
              go_wp2_with fail
              go_ret
              exact ⟨rfl, hb5.trans (hbr.mono hb5.size)⟩
  · have hs' : (400 < (t.size : Int)) ∨ ((t.size : Int) ≤ 400 ∧ 400 < (m.size : Int)) := by omega
    unfold maxLen at hm hm2
    clear hs
    rcases hs' with hs' | ⟨hs', hs2⟩
    all_goals
      go_enter Tryd.func7, Tryd.ntmps7
      go_wp2_with fail
      refine (kw.out _).mono ?_
      rintro e w1 ⟨rfl, hb1⟩
      go_wp2_with fail
      go_ret
      exact ⟨rfl, hb1⟩

end Go.Proofs.YtonofnjgefoieaaDoor
