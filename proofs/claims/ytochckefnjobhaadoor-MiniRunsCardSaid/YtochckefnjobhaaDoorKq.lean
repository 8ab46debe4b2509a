/- works06: the document's example. -/
import Derived.Test.YtochckefnjobhaaDoorKp
namespace Go.Proofs.YtochckefnjobhaaDoor
open Go Go.RowKit Go.Lib
open X3 (RX Pl)
open X5 (Aut)
set_option linter.unusedVariables false
set_option linter.unusedSimpArgs false

/-- One text, laid by itself. -/
theorem one_textK {w : World} {text : ByteArray} (ht : text.size ≤ maxLen) {w' : World} (e : w.alloc (.cells #[.string text] 9) = w') : TextsAt w' (.slice (some ⟨w.heap.size, 0, none⟩) 1 1) [text] ∧ Below w.heap.size w w' := by
  have hb : Below w.heap.size w w' := by rw [← e]; exact (Below.refl _ _).alloc (Nat.le_refl _) _
  have hn : w'.heap[w.heap.size]? = some (.cells #[.string text] 9 (0, 0)) := by rw [← e]; exact new_block _ _
  refine ⟨⟨⟨some ⟨w.heap.size, 0, none⟩, 1, rfl, fun j hj => ⟨w.heap.size, 0, rfl, (Array.getElem?_eq_some_iff.1 hn).1, ?_⟩⟩, fun s hs => ?_, by unfold maxLen; simp⟩, hb⟩
  · obtain rfl : j = 0 := by simpa using hj
    exact Lib.cell_of_heap hn 0
  · rw [List.mem_singleton.1 hs]; exact ht
/-- Two texts, laid by themselves. -/
theorem two_texts {w : World} {s t : ByteArray} (hs : s.size ≤ maxLen) (ht : t.size ≤ maxLen) {w' : World} (e : w.alloc (.cells #[.string s, .string t] 9) = w') : TextsAt w' (.slice (some ⟨w.heap.size, 0, none⟩) 2 2) [s, t] ∧ Below w.heap.size w w' := by
  have hb : Below w.heap.size w w' := by rw [← e]; exact (Below.refl _ _).alloc (Nat.le_refl _) _
  have hn : w'.heap[w.heap.size]? = some (.cells #[.string s, .string t] 9 (0, 0)) := by rw [← e]; exact new_block _ _
  refine ⟨⟨⟨some ⟨w.heap.size, 0, none⟩, 2, rfl, fun j hj => ⟨w.heap.size, 0, rfl, (Array.getElem?_eq_some_iff.1 hn).1, ?_⟩⟩, fun x hx => ?_, by unfold maxLen; simp⟩, hb⟩
  · have : j = 0 ∨ j = 1 := by simp at hj; omega
    rcases this with rfl | rfl
    · exact Lib.cell_of_heap hn 0
    · exact Lib.cell_of_heap hn 1
  · rcases List.mem_cons.1 hx with rfl | hx
    · exact hs
    · rw [List.mem_singleton.1 hx]; exact ht
/-- An automaton's own block. -/
def Bxx (b : Nat) (dd : Array Value) (w : World) : Prop := w.heap[b]? = some (.cells dd 30 (0, 0))
theorem Bxx.lt {b : Nat} {dd : Array Value} {w : World} (h : Bxx b dd w) : b < w.heap.size := (Array.getElem?_eq_some_iff.1 h).1
theorem Bxx.below {b : Nat} {dd : Array Value} {w w' : World} (h : Bxx b dd w) (hb : Below w.heap.size w w') : Bxx b dd w' := (hb.block _ h.lt).trans h
/-- A new block that an automaton is stored into. -/
theorem kept_new (w : World) (dd : Array Value) : ∃ w', (w.alloc (.cells dvz 30)).setRow w.heap.size dd = w' ∧ Bxx w.heap.size dd w' ∧ Below w.heap.size w w' ∧ w'.heap.size = w.heap.size + 1 :=
  ⟨_, rfl, setRow_heap _ _ dvz dd 30 (0, 0) (new_block w (.cells dvz 30)), row_below ((Below.refl _ _).alloc (Nat.le_refl _) _) (Nat.le_refl _), by simp [World.setRow]⟩
/-- The example's least automaton, at hand. -/
def Ex (dd : Array Value) (w : World) : Prop := ∃ nv tv, dd = dval exE nv tv ∧ DAt w nv tv exE
theorem Ex.below {dd : Array Value} {w w' : World} (h : Ex dd w) (hb : Below w.heap.size w w') : Ex dd w' := by
  obtain ⟨nv, tv, e, h⟩ := h
  exact ⟨nv, tv, e, h.below hb⟩
theorem Ex.sz {dd : Array Value} {w : World} (h : Ex dd w) : dd.size = 258 ∧ dd.all (·.oneCell') = true ∧ ∃ o c, dd[256]? = some (.slice o 2 c) := by
  obtain ⟨nv, tv, rfl, h⟩ := h
  obtain ⟨o, c, hc⟩ := rows_shape h.rows
  refine ⟨dval_size h, dval_one' h, o, c, ?_⟩
  rw [dcell_next h.len, hc]
  rfl
theorem ex_of {l : List ByteArray} {w : World} {v : Value} (h : TextsAt w v l) (hl : l.length ≤ 1000) {Bt : Nat} (ht : Tab Bt w) (hBt : Bt ≤ w.heap.size) (hp : parsesX l = .inr exM) :
    Calls Tryd.prog 39 #[v] w fun e w' => ∃ dd, e = .returned (.tuple #[.agg dd, .int .i64 0]) ∧ Ex dd w' ∧ Below w.heap.size w w' := by
  refine (texts_any l w v h hl ht hBt).mono fun e w' hq => ?_
  obtain ⟨hb, hm⟩ := hq
  rw [hp] at hm
  rcases hm with ⟨hm | hm, _⟩ | ⟨D, SS, A0, Bk, M, st, nv, tv, _, h0, hS, _, hv, hblk, hj, rfl, hd⟩
  · exact absurd hm exM_few
  · exact absurd hm exM_big
  obtain rfl := ex_is hS hv h0 hblk hj
  exact ⟨_, rfl, ⟨nv, tv, rfl, hd.at_⟩, hb⟩
theorem bad_of {w : World} {v : Value} (h : TextsAt w v [⟨#[97]⟩, ⟨#[40]⟩]) {Bt : Nat} (ht : Tab Bt w) (hBt : Bt ≤ w.heap.size) :
    Calls Tryd.prog 39 #[v] w fun e w' => e = .returned (.tuple #[.agg dvz, .int .i64 5]) ∧ Below w.heap.size w w' := by
  refine (texts_any _ w v h (by simp) ht hBt).mono fun e w' hq => ?_
  obtain ⟨hb, hm⟩ := hq
  rw [pe3] at hm
  exact ⟨hm, hb⟩
theorem exE_few : exE.next.length ≤ 1000000 ∧ exE.tags.length ≤ 1000000 ∧ (X5.rowOf exE 0).length ≤ 1000000 ∧ exE.next.length * (X5.rowOf exE 0).length ≤ 1000000 := by
  rw [exE_row0, show exE.next.length = 2 from rfl, show exE.tags.length = 2 from rfl]
  omega
theorem ex_least_any {dd : Array Value} {w : World} (h : Ex dd w) : Calls Tryd.prog 21 #[.agg dd] w fun e w' => ∃ de, e = .returned (.tuple #[.agg de, .int .i64 0]) ∧ Ex de w' ∧ Below w.heap.size w w' := by
  obtain ⟨nv, tv, rfl, h⟩ := h
  refine (least_any h exE_few.1 exE_few.2.1 exE_few.2.2.1 exE_few.2.2.2).mono fun e w' hq => ?_
  rcases hq with ⟨hn, _⟩ | ⟨_, Bk, M, st, nv', tv', rfl, hb, hj, hd, hbl⟩
  · exact absurd exE_vd hn
  obtain rfl := ex_least hb hj
  exact ⟨_, rfl, ⟨nv', tv', rfl, hd.at_⟩, hbl⟩
theorem ex_same {dd de : Array Value} {w : World} (h : Ex dd w) (g : Ex de w) : Calls Tryd.prog 22 #[.agg dd, .agg de] w fun e w' => e = .returned (.bool true) ∧ Below w.heap.size w w' := by
  obtain ⟨nv, tv, rfl, h⟩ := h
  obtain ⟨nu, tu, rfl, g⟩ := g
  refine (same_any h g).mono fun e w' hq => ?_
  rw [sameX_eq.2 rfl] at hq
  exact hq
theorem ex_live0 {dd : Array Value} {w : World} (h : Ex dd w) : Calls Tryd.prog 40 #[.agg dd, .int .i64 0] w fun e w' => e = .returned (.bool true) ∧ Below w.heap.size w w' := by
  obtain ⟨nv, tv, rfl, h⟩ := h
  refine (liveAt_any h exE_few.1 exE_few.2.1 exE_few.2.2.2 0).mono fun e w' hq => ?_
  obtain ⟨b, rfl, hb, hbl⟩ := hq
  have : b = true := hb.2 ⟨exE_vd, by decide, by decide, by rw [exE_row0]; exact exE_live0⟩
  rw [this]
  exact ⟨rfl, hbl⟩
theorem ex_live2 {dd : Array Value} {w : World} (h : Ex dd w) : Calls Tryd.prog 40 #[.agg dd, .int .i64 2] w fun e w' => e = .returned (.bool false) ∧ Below w.heap.size w w' := by
  obtain ⟨nv, tv, rfl, h⟩ := h
  refine (liveAt_any h exE_few.1 exE_few.2.1 exE_few.2.2.2 2).mono fun e w' hq => ?_
  obtain ⟨b, rfl, hb, hbl⟩ := hq
  have : b = false := by
    cases b with
    | false => rfl
    | true => exact absurd (hb.1 rfl).2.2.1 (by decide)
  rw [this]
  exact ⟨rfl, hbl⟩
theorem ex_run_any {dd : Array Value} {w : World} (h : Ex dd w) : Calls Tryd.prog 15 #[.agg dd, .string { data := #[98] }] w fun e w' => e = .returned (.int .u64 1) ∧ Below w.heap.size w w' := by
  obtain ⟨nv, tv, rfl, h⟩ := h
  refine (run_dfa h { data := #[98] } (by decide)).mono fun e w' hq => ?_
  rw [show LL ({ data := #[98] } : ByteArray) = [98] from rfl, exE_run] at hq
  exact hq

set_option maxRecDepth 100000 in
set_option maxHeartbeats 16000000 in
theorem works06 (w : World) {Bt : Nat} (ht : Tab Bt w) (hBt : Bt ≤ w.heap.size) : Calls Tryd.prog 19 #[] w fun e w' => e = .returned (.bool true) ∧ Below w.heap.size w w' := by
  have HTab := hid ht
  clear ht
  obtain ⟨w1, e1⟩ : ∃ w1, w.alloc (.cells #[.string { data := #[97, 124, 98] }] 9) = w1 := ⟨_, rfl⟩
  obtain ⟨hT1, hb1⟩ := one_textK (text := { data := #[97, 124, 98] }) (by decide) e1
  have HB1 := hid hb1
  have K := hid (ex_of hT1 (by simp) (HTab.out.on (hb1.mono hBt)) (Nat.le_trans hBt hb1.size) pe1)
  clear hT1 hb1
  go_enter Tryd.func19, Tryd.ntmps19
  go_wp2_with fail
  clear e1
  refine K.out.mono ?_
  rintro e wr1 ⟨d1, rfl, hE, hb⟩
  clear K
  have HD1 := hid hE.sz
  have HN1 := hid (new_block wr1 (.cells dvz 30))
  obtain ⟨ws1, es1, hx, hbs, hss⟩ := kept_new wr1 d1
  have HB1s := hid (HB1.out.trans ((hb.trans (hbs.mono hb.size)).mono HB1.out.size))
  have HX1 := hid (And.intro hx (hE.below hbs))
  obtain ⟨wt2, et2⟩ : ∃ wt2, ws1.alloc (.cells #[.string { data := #[91, 97, 93, 124, 91, 98, 93] }] 9) = wt2 := ⟨_, rfl⟩
  obtain ⟨hT, hbt⟩ := one_textK (text := { data := #[91, 97, 93, 124, 91, 98, 93] }) (by decide) et2
  have HBt2 := hid (HB1s.out.trans (hbt.mono HB1s.out.size))
  have HX1 := hid (And.intro (HX1.out.1.below hbt) (HX1.out.2.below hbt))
  have K := hid (ex_of hT (by simp) (HTab.out.on (HBt2.out.mono hBt)) (Nat.le_trans hBt HBt2.out.size) pe2)
  clear hE hx hb hbs hss hT hbt
  go_wp2_with (first | (with_reducible refine wpList_made30 rfl rfl ?_) | (with_reducible refine wpList_store30 rfl (.tmp 1) (.tmp 12) rfl wr1.heap.size rfl dvz d1 HN1.out rfl dvz_size HD1.out.1 HD1.out.2.1 ?_))
  clear es1 et2
  refine K.out.mono ?_
  rintro e wr2 ⟨d2, rfl, hE, hb⟩
  clear K
  have HD2 := hid hE.sz
  have HN2 := hid (new_block wr2 (.cells dvz 30))
  obtain ⟨ws2, es2, hx, hbs, hss⟩ := kept_new wr2 d2
  have HB2s := hid (HBt2.out.trans ((hb.trans (hbs.mono hb.size)).mono HBt2.out.size))
  have HX2 := hid (And.intro hx (hE.below hbs))
  have HX1 := hid (And.intro (HX1.out.1.below (hb.trans (hbs.mono hb.size))) (HX1.out.2.below (hb.trans (hbs.mono hb.size))))
  obtain ⟨wt3, et3⟩ : ∃ wt3, ws2.alloc (.cells #[.string { data := #[97] }, .string { data := #[40] }] 9) = wt3 := ⟨_, rfl⟩
  obtain ⟨hT, hbt⟩ := two_texts (s := { data := #[97] }) (t := { data := #[40] }) (by decide) (by decide) et3
  have HBt3 := hid (HB2s.out.trans (hbt.mono HB2s.out.size))
  have HX1 := hid (And.intro (HX1.out.1.below hbt) (HX1.out.2.below hbt))
  have HX2 := hid (And.intro (HX2.out.1.below hbt) (HX2.out.2.below hbt))
  have K := hid (bad_of hT (HTab.out.on (HBt3.out.mono hBt)) (Nat.le_trans hBt HBt3.out.size))
  clear hE hx hb hbs hss hT hbt
  go_wp2_with (first | (with_reducible refine wpList_made30 rfl rfl ?_) | (with_reducible refine wpList_store30 rfl (.tmp 3) (.tmp 17) rfl wr2.heap.size rfl dvz d2 HN2.out rfl dvz_size HD2.out.1 HD2.out.2.1 ?_))
  clear es2 et3
  refine K.out.mono ?_
  rintro e wr3 ⟨rfl, hb⟩
  clear K
  have HN3 := hid (new_block wr3 (.cells dvz 30))
  obtain ⟨ws3, es3, hx, hbs, hss⟩ := kept_new wr3 dvz
  have HB3s := hid (HBt3.out.trans ((hb.trans (hbs.mono hb.size)).mono HBt3.out.size))
  have HX1 := hid (And.intro (HX1.out.1.below (hb.trans (hbs.mono hb.size))) (HX1.out.2.below (hb.trans (hbs.mono hb.size))))
  have HX2 := hid (And.intro (HX2.out.1.below (hb.trans (hbs.mono hb.size))) (HX2.out.2.below (hb.trans (hbs.mono hb.size))))
  have K := hid (ex_least_any HX1.out.2)
  clear hx hb hbs hss
  go_wp2_with (first | (with_reducible refine wpList_made30 rfl rfl ?_) | (with_reducible refine wpList_store30 rfl (.tmp 5) (.tmp 22) rfl wr3.heap.size rfl dvz dvz HN3.out rfl dvz_size dvz_size dvz_one ?_))
  refine wp_load30' (.tmp 1) rfl wr1.heap.size rfl d1 HX1.out.1 HD1.out.1 ?_
  go_wp2_with fail
  clear es3
  refine K.out.mono ?_
  rintro e wr4 ⟨d4, rfl, hE, hb⟩
  clear K
  have HD4 := hid hE.sz
  have HN4 := hid (new_block wr4 (.cells dvz 30))
  obtain ⟨ws4, es4, hx, hbs, hss⟩ := kept_new wr4 d4
  have HB4s := hid (HB3s.out.trans ((hb.trans (hbs.mono hb.size)).mono HB3s.out.size))
  have HX4 := hid (And.intro hx (hE.below hbs))
  have HX1 := hid (And.intro (HX1.out.1.below (hb.trans (hbs.mono hb.size))) (HX1.out.2.below (hb.trans (hbs.mono hb.size))))
  have HX2 := hid (And.intro (HX2.out.1.below (hb.trans (hbs.mono hb.size))) (HX2.out.2.below (hb.trans (hbs.mono hb.size))))
  have K := hid (ex_same HX1.out.2 HX2.out.2)
  clear hE hx hb hbs hss
  go_wp2_with (first | (with_reducible refine wpList_made30 rfl rfl ?_) | (with_reducible refine wpList_store30 rfl (.tmp 7) (.tmp 27) rfl wr4.heap.size rfl dvz d4 HN4.out rfl dvz_size HD4.out.1 HD4.out.2.1 ?_))
  clear es4
  refine wp_load30' (.tmp 1) rfl wr1.heap.size rfl d1 HX1.out.1 HD1.out.1 ?_
  go_wp2_with fail
  refine wp_load30' (.tmp 3) rfl wr2.heap.size rfl d2 HX2.out.1 HD2.out.1 ?_
  go_wp2_with fail
  refine K.out.mono ?_
  rintro e w20 ⟨rfl, hb⟩
  clear K
  have HB20 := hid (HB4s.out.trans (hb.mono HB4s.out.size))
  have HX1 := hid (And.intro (HX1.out.1.below hb) (HX1.out.2.below hb))
  have HX2 := hid (And.intro (HX2.out.1.below hb) (HX2.out.2.below hb))
  have HX4 := hid (And.intro (HX4.out.1.below hb) (HX4.out.2.below hb))
  have K := hid (ex_same HX1.out.2 HX4.out.2)
  clear hb
  go_wp2_with fail
  refine wp_load30' (.tmp 1) rfl wr1.heap.size rfl d1 HX1.out.1 HD1.out.1 ?_
  go_wp2_with fail
  refine wp_load30' (.tmp 7) rfl wr4.heap.size rfl d4 HX4.out.1 HD4.out.1 ?_
  go_wp2_with fail
  refine K.out.mono ?_
  rintro e w21 ⟨rfl, hb⟩
  clear K
  have HB21 := hid (HB20.out.trans (hb.mono HB20.out.size))
  have HX1 := hid (And.intro (HX1.out.1.below hb) (HX1.out.2.below hb))
  have K := hid (ex_live0 HX1.out.2)
  obtain ⟨o1, c1, hd⟩ := HD1.out.2.2
  have c256 : w21.cell? ⟨wr1.heap.size, 256, none⟩ = some (.slice o1 2 c1) := (Lib.cell_of_heap HX1.out.1 256).trans hd
  clear hb hd
  go_wp2_with fail
  refine wp_load30' (.tmp 1) rfl wr1.heap.size rfl d1 HX1.out.1 HD1.out.1 ?_
  clear c256
  go_wp2_with fail
  refine K.out.mono ?_
  rintro e w22 ⟨rfl, hb⟩
  clear K
  have HB22 := hid (HB21.out.trans (hb.mono HB21.out.size))
  have HX1 := hid (And.intro (HX1.out.1.below hb) (HX1.out.2.below hb))
  have K := hid (ex_live2 HX1.out.2)
  clear hb
  go_wp2_with fail
  refine wp_load30' (.tmp 1) rfl wr1.heap.size rfl d1 HX1.out.1 HD1.out.1 ?_
  go_wp2_with fail
  refine K.out.mono ?_
  rintro e w23 ⟨rfl, hb⟩
  clear K
  have HB23 := hid (HB22.out.trans (hb.mono HB22.out.size))
  have HX1 := hid (And.intro (HX1.out.1.below hb) (HX1.out.2.below hb))
  have K := hid (ex_run_any HX1.out.2)
  clear hb
  go_wp2_with fail
  refine wp_load30' (.tmp 1) rfl wr1.heap.size rfl d1 HX1.out.1 HD1.out.1 ?_
  go_wp2_with fail
  refine K.out.mono ?_
  rintro e w24 ⟨rfl, hb⟩
  clear K
  have HB24 := hid (HB23.out.trans (hb.mono HB23.out.size))
  clear hb
  go_wp2_with fail
  go_ret
  exact ⟨rfl, HB24.out⟩
end Go.Proofs.YtochckefnjobhaaDoor
