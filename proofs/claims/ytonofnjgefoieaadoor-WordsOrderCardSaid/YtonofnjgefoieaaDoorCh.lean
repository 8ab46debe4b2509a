/- word.ended, at every row of words. -/
import Derived.Test.YtonofnjgefoieaaDoorCg
import Derived.Laws.AppendOwn
namespace Go.Proofs.YtonofnjgefoieaaDoor
open Go Go.RowKit Go.Lib Go.Proofs.W8
set_option linter.unusedVariables false

/-- A word's cells. -/
def wc1 (x : Wd) : List Value := [.int .i64 (x.kind : Int), .string (bs x.text), .int .i64 (x.n : Int), .int .i64 (x.at_ : Int)]
def wc (L : List Wd) : List Value := L.flatMap wc1

theorem wc_app (A B : List Wd) : wc (A ++ B) = wc A ++ wc B := by simp [wc]
theorem wc_one (x : Wd) : wc [x] = wc1 x := by simp [wc]
theorem wc_len : ∀ L : List Wd, (wc L).length = L.length * 4
  | [] => rfl
  | x :: L => by
    have := wc_len L
    simp only [wc, List.flatMap_cons, List.length_append, List.length_cons] at this ⊢
    rw [this]; simp [wc1]; omega

abbrev WRow (B : Nat) (v : Value) (L : List Wd) (w : World) : Prop := w.ownsRow B 32 4 v L.length (wc L)

theorem info32 : (Tryd.prog.info? 32).map (fun i => (i.zero, i.size, i.bytes)) = some (some (.agg zeroW), 4, 40) := by kernel_rfl

/-- A word's own cells in its row. -/
theorem WRow.at {B : Nat} {v : Value} {L : List Wd} {w : World} (h : WRow B v L w) (h0 : L ≠ []) :
    ∃ g cap, v = .slice (some ⟨g, 0, none⟩) L.length cap ∧ B ≤ g ∧ L.length ≤ cap ∧ cap ≤ maxLen ∧ ∀ j (hj : j < L.length) o, o < 4 → w.cell? ⟨g, j * 4 + o, none⟩ = (wc1 L[j])[o]? := by
  rcases h.2 with ⟨_, h1⟩ | ⟨g, cap, cur, rfl, hB, hg, hc, hcm, hs, ht⟩
  · exact absurd (List.eq_nil_of_length_eq_zero h1) h0
  · refine ⟨g, cap, rfl, hB, hc, hcm, fun j hj o ho => ?_⟩
    have e1 : (wc L)[j * 4 + o]? = (wc1 L[j])[o]? := by
      have e : L = L.take j ++ L[j] :: L.drop (j + 1) := by simp
      have e2 : wc L = wc (L.take j) ++ (wc1 L[j] ++ wc (L.drop (j + 1))) := by
        rw [← wc_one, ← wc_app, ← wc_app]; congr 1
      have hl : (wc (L.take j)).length = j * 4 := by rw [wc_len, List.length_take]; congr 1; omega
      have hl1 : (wc1 L[j]).length = 4 := rfl
      rw [e2, List.getElem?_append_right (by omega), hl, List.getElem?_append_left (by omega)]
      congr 1; omega
    have hlt : j * 4 + o < L.length * 4 := by omega
    rw [Lib.cell_of_heap hg, ← e1, ← ht, List.getElem?_take, if_pos hlt, Array.getElem?_toList]

set_option maxRecDepth 100000 in
set_option maxHeartbeats 1000000 in
theorem ended_nil (B a : Nat) (v : Value) (w : World) (h : WRow B v [] w) : Calls Tryd.prog 24 #[v, .int .i64 (a : Int)] w fun e w' => e = .returned v ∧ w = w' := by
  rcases h.2 with ⟨rfl, h1⟩ | ⟨g, cap, cur, rfl, hB, hg, hc, hcm, hs, ht⟩
  · go_enter Tryd.func24, Tryd.ntmps24
    go_wp2_with fail
    go_ret
    exact ⟨rfl, rfl⟩
  · go_enter Tryd.func24, Tryd.ntmps24
    go_wp2_with fail
    go_ret
    exact ⟨rfl, rfl⟩

set_option maxRecDepth 100000 in
set_option maxHeartbeats 1000000 in
theorem ended_keep (B a : Nat) (v : Value) (L : List Wd) (x : Wd) (w : World) (h : WRow B v (L ++ [x]) w) (hx : x.kind = 4) (hL : L.length ≤ 1000000) :
    Calls Tryd.prog 24 #[v, .int .i64 (a : Int)] w fun e w' => e = .returned v ∧ w = w' := by
  obtain ⟨g, cap, rfl, hB, hc, hcm, hcell⟩ := h.at (by simp)
  have hk := hcell L.length (by simp) 0 (by decide)
  have e1 : (L ++ [x])[L.length]'(by simp) = x := by simp
  have e2 : (L ++ [x]).length = L.length + 1 := by simp
  rw [e1] at hk
  have hk0 : w.cell? ⟨g, L.length * 4, none⟩ = some (.int .i64 4) := by rw [Nat.add_zero] at hk; rw [hk]; simp [wc1, hx]
  rw [e2] at hc ⊢
  clear hk hcell e1 e2 hx h
  generalize L.length = m at *
  go_enter Tryd.func24, Tryd.ntmps24
  go_wp2_with fail
  go_ret
  exact ⟨rfl, rfl⟩


set_option maxRecDepth 100000 in
set_option maxHeartbeats 1000000 in
theorem ended_more (B a : Nat) (v : Value) (L : List Wd) (x : Wd) (w : World) (h : WRow B v (L ++ [x]) w) (hx : x.kind ≠ 4) (hL : L.length ≤ 1000000) (hBw : B ≤ w.heap.size) :
    Calls Tryd.prog 24 #[v, .int .i64 (a : Int)] w fun e w' => ∃ v', e = .returned v' ∧ WRow B v' (L ++ [x] ++ [⟨4, [], 0, a⟩]) w' ∧ Below B w w' := by
  obtain ⟨i0, hi, hz0, hz1, hz2⟩ := info_parts info32
  have hown := h
  obtain ⟨g, cap, rfl, hB, hc, hcm, hcell⟩ := h.at (by simp)
  have hk := hcell L.length (by simp) 0 (by decide)
  have e1 : (L ++ [x])[L.length]'(by simp) = x := by simp
  have e2 : (L ++ [x]).length = L.length + 1 := by simp
  rw [e1] at hk
  have hk0 : w.cell? ⟨g, L.length * 4, none⟩ = some (.int .i64 (x.kind : Int)) := by rw [Nat.add_zero] at hk; rw [hk]; simp [wc1]
  have t4 : ((x.kind : Int) == 4) = false := by simp; omega
  have hlt := (hown.lt g rfl).2
  have HO : Hid (w.ownsRow B 32 4 (.slice (some ⟨g, 0, none⟩) (L.length + 1) cap) (L.length + 1) (wc (L ++ [x]))) := by have := hown; rw [WRow, e2] at this; exact this
  rw [e2] at hc ⊢
  clear hk hcell e1 e2 hx h hown
  generalize hm : L.length = m at *
  have HM := hid hm
  clear hm
  go_enter Tryd.func24, Tryd.ntmps24
  have hown := HO.out
  go_wp2_with (at_builtin; refine wpList_append_own _ rfl _ _ 26 rfl B 32 i0 (.agg zeroW) 4 40 Tryd.underlying26 hi hz0 hz1 hz2 rfl (by decide) _ _ _ rfl (hown.alloc _) ⟨w.heap.size, 0, none⟩ 1 1 (wc1 ⟨4, [], 0, a⟩) rfl rfl ?c1 ?c2 ?c3 ?c4 ?c5 ?_)
  case c1 =>
    intro j u hj
    have := Lib.cell_of_heap (alloc_new w (.cells #[.int .i64 4, .string { data := #[] }, .int .i64 0, .int .i64 (a : Int)] 32)) j
    rw [show (⟨w.heap.size, 0, none⟩ : Addr).add j = ⟨w.heap.size, j, none⟩ by simp [Addr.add]; omega]
    rw [this, ← hj]
    simp [wc1, bs]
  case c2 => intro u hu; simp [wc1] at hu; rcases hu with rfl | rfl | rfl | rfl <;> rfl
  case c3 => unfold maxLen; omega
  case c4 => omega
  case c5 => simp; omega
  intro v' w2 hown' hgrow _
  go_wp2
  go_ret
  refine ⟨v', rfl, ?_, ?_⟩
  · have e3 : (L ++ [x] ++ [(⟨4, [], 0, a⟩ : Wd)]).length = m + 1 + 1 := by simp [HM.out]
    rw [WRow, e3, wc_app, wc_one]
    exact hown'
  · exact ((Below.refl B w).alloc hBw _).grown hgrow (by simp; omega) (fun k hk => by simp [Value.ownBlock] at hk; omega)

/-- word.ended. -/
theorem ended_any (B a : Nat) (v : Value) (L : List Wd) (w : World) (h : WRow B v L w) (hL : L.length ≤ 1000000) (hBw : B ≤ w.heap.size) :
    Calls Tryd.prog 24 #[v, .int .i64 (a : Int)] w fun e w' => ∃ v', e = .returned v' ∧ WRow B v' (enL L a) w' ∧ Below B w w' := by
  rcases List.eq_nil_or_concat L with rfl | ⟨L', x, hLx⟩
  · refine (ended_nil B a v w h).mono ?_
    rintro e w' ⟨rfl, rfl⟩
    exact ⟨v, rfl, h, Below.refl _ _⟩
  · rw [List.concat_eq_append] at hLx
    subst hLx
    have hl : L'.length ≤ 1000000 := by simp at hL; omega
    by_cases hx : x.kind = 4
    · have e : enL (L' ++ [x]) a = L' ++ [x] := by simp [enL, hx]
      rw [e]
      refine (ended_keep B a v L' x w h hx hl).mono ?_
      rintro e w' ⟨rfl, rfl⟩
      exact ⟨v, rfl, h, Below.refl _ _⟩
    · have e : enL (L' ++ [x]) a = L' ++ [x] ++ [⟨4, [], 0, a⟩] := by simp [enL, hx]
      rw [e]
      exact ended_more B a v L' x w h hx hl hBw

end Go.Proofs.YtonofnjgefoieaaDoor
