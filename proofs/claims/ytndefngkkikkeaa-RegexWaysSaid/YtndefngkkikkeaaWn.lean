/- The example that every statement of the layer calls first: it holds. -/
import Derived.Test.YtndefngkkikkeaaSe
import Derived.Test.YtndefngkkikkeaaXi
import Derived.Test.YtndefngkkikkeaaXm
import Derived.Test.YtndefngkkikkeaaXj
import Derived.BigQuiet
set_option linter.unusedVariables false
set_option linter.unusedSimpArgs false
namespace Go.Proofs.X3
open Go Go.RowKit Go.Lib
def exK : RX := .alt [spanX 98 98, spanX 99 99]
def exR : RX := .cat [spanX 97 97, .star exK]
theorem ex_parse : parseX [97, 40, 98, 124, 99, 41, 42] = .inr exR := by rfl
theorem ex_shown : showX exR = [40, 91, 92, 120, 54, 49, 93, 40, 91, 92, 120, 54, 50, 93, 124, 91, 92, 120, 54, 51, 93, 41, 42, 41] := by kernel_rfl
theorem ex_show : parseX (showX exR) = .inr exR := by rw [ex_shown]; kernel_rfl
theorem empty_shown : showX .empty = [40, 41] := by rfl
theorem ex_len : (showX exR).length = 24 := by rw [ex_shown]; rfl
theorem mt_span {n : Nat} {x : UInt8} (h : hasX (spanX n n) x.toNat = true) : Mt (spanX n n) [x] := has_byte.1 h
theorem ex_a : mtB exR [97] = true := by
  rw [mtB_iff]
  exact .cat _ _ (.cons _ _ [97] [] (mt_span (by kernel_rfl)) (mtL_one.2 (.star0 _)))
theorem ex_b : Mt exK [98] := .alt _ _ _ (List.mem_cons_self ..) (mt_span (by kernel_rfl))
theorem ex_c : Mt exK [99] := .alt _ _ _ (List.mem_cons_of_mem _ (List.mem_cons_self ..)) (mt_span (by kernel_rfl))
theorem ex_abc : mtB exR [97, 98, 99] = true := by
  rw [mtB_iff]
  exact .cat _ _ (.cons _ _ [97] [98, 99] (mt_span (by kernel_rfl)) (mtL_one.2 (.star1 _ [98] [99] ex_b (mt_star_one ex_c))))
theorem ex_acb : mtB exR [97, 99, 98] = true := by
  rw [mtB_iff]
  exact .cat _ _ (.cons _ _ [97] [99, 98] (mt_span (by kernel_rfl)) (mtL_one.2 (.star1 _ [99] [98] ex_c (mt_star_one ex_b))))
theorem ex_nb : mtB exR [98] = false := by
  refine mtB_eq ?_
  constructor
  · intro h
    obtain ⟨u, v, e, h1, h2⟩ := mtL_cons_inv (mt_cat_inv h)
    obtain ⟨x, rfl⟩ := mt_bytes_inv h1
    injection e with e1 e2
    subst e1
    exact absurd (has_byte.2 h1) (by decide +kernel)
  · intro h; cases h
theorem ex_null : nullX exR = false := by rfl
theorem ex_null1 : nullX (.star exK) = true := by rfl
theorem ex_has : hasX (spanX 97 97) 97 = true := by kernel_rfl
end Go.Proofs.X3
namespace Go.Proofs.Ytndefngkkikkeaa
open Go Go.RowKit Go.Lib

/-- What Parse returns, whatever the text. -/
theorem parse_gen {w w' : World} {R : Nat ⊕ X3.RX} {e : Ending} (h : ParseP w R e w') : ∃ (k x y z u : Int) (o : Option Addr) (n cc : Nat) (c : Int),
    e = .returned (.tuple #[nodeV k x y z u (.slice o n cc), .int .i64 c]) ∧ Below w.heap.size w w' ∧
    (match R with | .inl c' => c = (c' : Int) | .inr r => c = 0 ∧ RepS (fun g => g < w'.heap.size) w' r (nodeV k x y z u (.slice o n cc))) := by
  cases R with
  | inl c' => exact ⟨0, 0, 0, 0, 0, none, 0, 0, c', h.1, h.2, rfl⟩
  | inr r =>
    obtain ⟨v, rfl, hR, hb⟩ := h
    obtain ⟨k, x, y, z, u, o, n, c, rfl⟩ := hR.shape
    exact ⟨k, x, y, z, u, o, n, c, 0, rfl, hb, rfl, hR.monoS fun g _ hg => hg⟩

/-- A box that holds a regex. -/
def Bx (w : World) (b : Nat) (r : X3.RX) (k x y z u : Int) (o : Option Addr) (n c : Nat) : Prop :=
  w.heap[b]? = some (.cells #[.int .i64 k, .int .u64 x, .int .u64 y, .int .u64 z, .int .u64 u, .slice o n c] 28 (0, 0)) ∧ RepS (fun g => g < w.heap.size) w r (nodeV k x y z u (.slice o n c))
theorem Bx.next {w w' : World} {b : Nat} {r : X3.RX} {k x y z u : Int} {o : Option Addr} {n c : Nat} (h : Bx w b r k x y z u o n c) (hb : Below w.heap.size w w') : Bx w' b r k x y z u o n c :=
  ⟨(hb.block b (Array.getElem?_eq_some_iff.1 h.1).1).trans h.1, (h.2.kept (keepS_below hb)).monoS fun g hg _ => Nat.lt_of_lt_of_le hg hb.size⟩
theorem rep_next {w w' : World} {r : X3.RX} {v : Value} (h : RepS (fun g => g < w.heap.size) w r v) (hb : Below w.heap.size w w') : RepS (fun g => g < w'.heap.size) w' r v :=
  (h.kept (keepS_below hb)).monoS fun g hg _ => Nat.lt_of_lt_of_le hg hb.size
theorem Bx.cells {w : World} {b : Nat} {r : X3.RX} {k x y z u : Int} {o : Option Addr} {n c : Nat} (h : Bx w b r k x y z u o n c) :
    w.cell? ⟨b, 0, none⟩ = some (.int .i64 k) ∧ w.cell? ⟨b, 1, none⟩ = some (.int .u64 x) ∧ w.cell? ⟨b, 2, none⟩ = some (.int .u64 y) ∧ w.cell? ⟨b, 3, none⟩ = some (.int .u64 z) ∧
    w.cell? ⟨b, 4, none⟩ = some (.int .u64 u) ∧ w.cell? ⟨b, 5, none⟩ = some (.slice o n c) := cells6 h.1
/-- A regex that comes into a new box. -/
theorem box_new {w : World} {r : X3.RX} {k x y z u : Int} {o : Option Addr} {n c : Nat} (h : RepS (fun g => g < w.heap.size) w r (nodeV k x y z u (.slice o n c))) :
    ∃ wa, w.alloc (.cells #[.int .i64 k, .int .u64 x, .int .u64 y, .int .u64 z, .int .u64 u, .slice o n c] 28) = wa ∧ Bx wa w.heap.size r k x y z u o n c ∧ Below w.heap.size w wa := by
  have hb : Below w.heap.size w (w.alloc (.cells #[.int .i64 k, .int .u64 x, .int .u64 y, .int .u64 z, .int .u64 u, .slice o n c] 28)) := (Below.refl _ _).alloc (Nat.le_refl _) _
  exact ⟨_, rfl, ⟨new_block _ _, rep_next h hb⟩, hb⟩

theorem ex_kids {S : Nat → Prop} {w : World} {g c : Nat} (h : RepS S w X3.exR (nodeV 2 0 0 0 0 (.slice (some ⟨g, 0, none⟩) 2 c))) :
    ∃ (k x y z u : Int) (kv : Value) (k' x' y' z' u' : Int) (kv' : Value), RepS S w (X3.spanX 97 97) (nodeV k x y z u kv) ∧ RepS S w (.star X3.exK) (nodeV k' x' y' z' u' kv') ∧
    w.cell? ⟨g, 0, none⟩ = some (.int .i64 k) ∧ w.cell? ⟨g, 1, none⟩ = some (.int .u64 x) ∧ w.cell? ⟨g, 2, none⟩ = some (.int .u64 y) ∧ w.cell? ⟨g, 3, none⟩ = some (.int .u64 z) ∧ w.cell? ⟨g, 4, none⟩ = some (.int .u64 u) ∧ w.cell? ⟨g, 5, none⟩ = some kv ∧
    w.cell? ⟨g, 6, none⟩ = some (.int .i64 k') ∧ w.cell? ⟨g, 7, none⟩ = some (.int .u64 x') ∧ w.cell? ⟨g, 8, none⟩ = some (.int .u64 y') ∧ w.cell? ⟨g, 9, none⟩ = some (.int .u64 z') ∧ w.cell? ⟨g, 10, none⟩ = some (.int .u64 u') ∧ w.cell? ⟨g, 11, none⟩ = some kv' ∧ 2 ≤ c := by
  generalize hv : nodeV 2 0 0 0 0 (.slice (some ⟨g, 0, none⟩) 2 c) = v at h
  unfold X3.exR at h
  cases h with
  | cat _ g2 cap h hc hg hw h0 =>
  obtain ⟨_, _, _, _, _, q⟩ := nodeV_inj hv
  injection q with q1 q2 q3
  injection q1 with q1
  injection q1 with q1 _ _
  subst q1 q3
  obtain ⟨k, x, y, z, u, kv, r0, a0, a1, a2, a3, a4, a5⟩ := h.at_ 0 (by decide)
  obtain ⟨k', x', y', z', u', kv', r1, b0, b1, b2, b3, b4, b5⟩ := h.at_ 1 (by decide)
  exact ⟨k, x, y, z, u, kv, k', x', y', z', u', kv', r0, r1, a0, a1, a2, a3, a4, a5, b0, b1, b2, b3, b4, b5, hc⟩
theorem ex_match {w : World} {v : Value} {s : ByteArray} {b : Bool} (h : RepS (fun g => g < w.heap.size) w X3.exR v) (hs : s.size ≤ 1000) (hb : X3.mtB X3.exR (LL s) = b) :
    Calls Try.prog 17 #[v, .string s] w fun e w' => e = .returned (.bool b) ∧ Below w.heap.size w w' := by
  rw [← hb]; exact match_any _ w X3.exR v s h (by decide) hs

set_option maxRecDepth 100000 in
set_option maxHeartbeats 4000000 in
theorem works (w : World) : Calls Try.prog 9 #[] w fun e w' => e = .returned (.bool true) ∧ Below w.heap.size w w' := by
  have kP : Hid (∀ w : World, Calls Try.prog 10 #[.string { data := #[97, 40, 98, 124, 99, 41, 42] }] w (ParseP w (.inr X3.exR))) := by
    intro w
    have := parse_any { data := #[97, 40, 98, 124, 99, 41, 42] } w (by decide)
    rw [show LL ({ data := #[97, 40, 98, 124, 99, 41, 42] } : ByteArray) = [97, 40, 98, 124, 99, 41, 42] from rfl, X3.ex_parse] at this
    exact this
  have kQ : Hid (∀ w : World, Calls Try.prog 10 #[.string (bs (X3.showX X3.exR))] w (ParseP w (.inr X3.exR))) := by
    intro w
    have := parse_any (bs (X3.showX X3.exR)) w (by rw [X3.ex_shown]; decide)
    rw [show LL (bs (X3.showX X3.exR)) = X3.showX X3.exR from rfl, X3.ex_show] at this
    exact this
  go_enter Try.func9, Try.ntmps9
  go_wp2_with fail
  refine (kP.out _).mono ?_
  intro e w1 hp
  obtain ⟨k, x, y, z, u, o, n, c, _, rfl, hb1, rfl, hR⟩ := parse_gen hp
  clear hp
  have HR := hid hR
  generalize hv : nodeV k x y z u (.slice o n c) = v at hR
  unfold X3.exR at hR
  cases hR with
  | cat _ g cap h hc hg hw h0 =>
  obtain ⟨rfl, rfl, rfl, rfl, rfl, q⟩ := nodeV_inj hv
  injection q with q1 q2 q3
  subst q1 q2 q3
  clear hv h hc hg hw h0
  have HR2 : Hid (RepS (fun g => g < w1.heap.size) w1 X3.exR (nodeV 2 0 0 0 0 (.slice (some ⟨g, 0, none⟩) 2 c))) := hid HR.out
  clear HR
  go_wp2_with fail
  obtain ⟨wa, ea, hx, hba⟩ := box_new HR2.out
  have hlt : w1.heap.size < wa.heap.size := (Array.getElem?_eq_some_iff.1 hx.1).1
  have K1 := hid (Show_any hx.2 (by decide))
  have HX := hid hx
  have HB := hid (hb1.trans (hba.mono hb1.size))
  clear hx hb1 hba HR2 kP
  rw [ea]
  clear ea
  generalize w1.heap.size = b at *
  refine K1.out.mono ?_
  rintro e w2 ⟨rfl, hb2⟩
  have HX2 := hid (HX.out.next hb2)
  have HB2 := hid (HB.out.trans (hb2.mono HB.out.size))
  clear HX HB K1 hlt hb2
  go_wp2_with fail
  refine (kQ.out _).mono ?_
  intro e w3 hp
  obtain ⟨k, x, y, z, u, o, n, c2, _, rfl, hb3, rfl, hR⟩ := parse_gen hp
  clear hp kQ
  have HX3 := hid (HX2.out.next hb3)
  have HB3 := hid (HB2.out.trans (hb3.mono HB2.out.size))
  clear HX2 HB2 hb3
  have hlt3 : b < w3.heap.size := (Array.getElem?_eq_some_iff.1 HX3.out.1).1
  have hxc := HX3.out.cells
  obtain ⟨n0, n1, n2, n3, n4, n5⟩ := hxc
  go_wp2_with fail
  obtain ⟨wb, eb, hy, hbb⟩ := box_new hR
  have HX4 := hid (HX3.out.next hbb)
  have HB4 := hid (HB3.out.trans (hbb.mono HB3.out.size))
  have HY4 := hid hy
  clear HX3 HB3 hbb hy hR n0 n1 n2 n3 n4 n5
  rw [eb]
  clear eb
  generalize w3.heap.size = b2 at *
  refine (ex_match (s := ⟨#[97]⟩) (b := true) HX4.out.2 (by decide) X3.ex_a).mono ?_
  rintro e w5 ⟨rfl, hb⟩
  have HX5 := hid (HX4.out.next hb)
  have HY5 := hid (HY4.out.next hb)
  have HB5 := hid (HB4.out.trans (hb.mono HB4.out.size))
  clear hb HX4 HY4 HB4
  obtain ⟨n0, n1, n2, n3, n4, n5⟩ := HX5.out.cells
  go_wp2_with fail
  clear n0 n1 n2 n3 n4 n5
  refine (ex_match (s := ⟨#[97, 98, 99]⟩) (b := true) HX5.out.2 (by decide) X3.ex_abc).mono ?_
  rintro e w6 ⟨rfl, hb⟩
  have HX6 := hid (HX5.out.next hb)
  have HY6 := hid (HY5.out.next hb)
  have HB6 := hid (HB5.out.trans (hb.mono HB5.out.size))
  clear hb HX5 HY5 HB5
  obtain ⟨n0, n1, n2, n3, n4, n5⟩ := HX6.out.cells
  go_wp2_with fail
  clear n0 n1 n2 n3 n4 n5
  refine (ex_match (s := ⟨#[98]⟩) (b := false) HX6.out.2 (by decide) X3.ex_nb).mono ?_
  rintro e w7 ⟨rfl, hb⟩
  have HX7 := hid (HX6.out.next hb)
  have HY7 := hid (HY6.out.next hb)
  have HB7 := hid (HB6.out.trans (hb.mono HB6.out.size))
  clear hb HX6 HY6 HB6
  obtain ⟨n0, n1, n2, n3, n4, n5⟩ := HX7.out.cells
  go_wp2_with fail
  clear n0 n1 n2 n3 n4 n5
  have hn := null_any _ _ _ _ _ (Nat.le_refl _) (by decide) HX7.out.2
  rw [X3.ex_null] at hn
  refine hn.mono ?_
  rintro e w8 ⟨rfl, hb⟩
  have HX8 := hid (HX7.out.next hb)
  have HY8 := hid (HY7.out.next hb)
  have HB8 := hid (HB7.out.trans (hb.mono HB7.out.size))
  clear hb HX7 HY7 HB7
  clear hn
  obtain ⟨k0, x0, y0, z0, u0, kv0, k1, x1, y1, z1, u1, kv1, r0, r1, a0, a1, a2, a3, a4, a5, b0, b1, b2', b3, b4, b5, hc2⟩ := ex_kids HX8.out.2
  have hn := null_any _ _ _ _ _ (Nat.le_refl _) (by decide) r1
  rw [X3.ex_null1] at hn
  have HN := hid hn
  clear hn
  obtain ⟨n0, n1, n2, n3, n4, n5⟩ := HX8.out.cells
  go_wp2_with fail
  clear n0 n1 n2 n3 n4 n5
  clear r0 r1 a0 a1 a2 a3 a4 a5 b0 b1 b2' b3 b4 b5 hc2
  refine HN.out.mono ?_
  rintro e w9 ⟨rfl, hb⟩
  have HX9 := hid (HX8.out.next hb)
  have HY9 := hid (HY8.out.next hb)
  have HB9 := hid (HB8.out.trans (hb.mono HB8.out.size))
  clear hb HX8 HY8 HB8
  clear HN
  obtain ⟨k0, x0, y0, z0, u0, kv0, k1, x1, y1, z1, u1, kv1, r0, r1, a0, a1, a2, a3, a4, a5, b0, b1, b2', b3, b4, b5, hc2⟩ := ex_kids HX9.out.2
  have hn := has_any r0 97 (by decide) w9
  rw [X3.ex_has] at hn
  have HN : Hid (Calls Try.prog 15 #[nodeV k0 x0 y0 z0 u0 kv0, .int .u8 97] w9 fun e w' => e = .returned (.bool true) ∧ Below w9.heap.size w9 w') := hn
  clear hn r0 r1 b0 b1 b2' b3 b4 b5
  obtain ⟨n0, n1, n2, n3, n4, n5⟩ := HX9.out.cells
  go_wp2_with fail
  clear n0 n1 n2 n3 n4 n5 a0 a1 a2 a3 a4 a5
  refine HN.out.mono ?_
  rintro e w10 ⟨rfl, hb⟩
  have HX10 := hid (HX9.out.next hb)
  have HY10 := hid (HY9.out.next hb)
  have HB10 := hid (HB9.out.trans (hb.mono HB9.out.size))
  clear hb HX9 HY9 HB9
  clear HN
  obtain ⟨n0, n1, n2, n3, n4, n5⟩ := HY10.out.cells
  go_wp2_with fail
  clear n0 n1 n2 n3 n4 n5
  refine (ex_match (s := ⟨#[97, 99, 98]⟩) (b := true) HY10.out.2 (by decide) X3.ex_acb).mono ?_
  rintro e w11 ⟨rfl, hb⟩
  have HX11 := hid (HX10.out.next hb)
  have HY11 := hid (HY10.out.next hb)
  have HB11 := hid (HB10.out.trans (hb.mono HB10.out.size))
  clear hb HX10 HY10 HB10
  have kE : Hid (Calls Try.prog 13 #[nodeV 0 0 0 0 0 noKids] w11 fun e w' => e = .returned (.string ⟨#[40, 41]⟩) ∧ Below w11.heap.size w11 w') := Show_any (S := fun _ => True) RepS.empty (by decide)
  go_wp2_with fail
  refine kE.out.mono ?_
  rintro e w12 ⟨rfl, hb⟩
  have HX12 := hid (HX11.out.next hb)
  have HY12 := hid (HY11.out.next hb)
  have HB12 := hid (HB11.out.trans (hb.mono HB11.out.size))
  clear hb HX11 HY11 HB11
  go_wp2_with fail
  go_ret
  exact ⟨rfl, HB12.out⟩
end Go.Proofs.Ytndefngkkikkeaa

/- Parse, Match, Show on any text: one form for a tree and for an error. -/
set_option linter.unusedVariables false
set_option linter.unusedSimpArgs false
namespace Go.Proofs.X3
def errOf : Nat ⊕ RX → Nat
  | .inl c => c
  | .inr _ => 0
def treeOf : Nat ⊕ RX → RX
  | .inl _ => .empty
  | .inr r => r
theorem tree_size (s : List UInt8) : (treeOf (parseX s)).size ≤ 500 := by
  cases h : parseX s with
  | inl c => exact (by decide : RX.size .empty ≤ 500)
  | inr r => exact (parse_good h).2
theorem tree_good (s : List UInt8) : good (treeOf (parseX s)) := by
  cases h : parseX s with
  | inl c => exact trivial
  | inr r => exact (parse_good h).1
/-- An error, or the tree. -/
theorem parse_is (s : List UInt8) : (errOf (parseX s) ≠ 0) ∨ (errOf (parseX s) = 0 ∧ parseX s = .inr (treeOf (parseX s))) := by
  cases h : parseX s with
  | inl c => exact .inl (parse_e h)
  | inr r => exact .inr ⟨rfl, rfl⟩
theorem many_is (r : RX) : errOf (orMany r) = 4 ∨ (errOf (orMany r) = 0 ∧ treeOf (orMany r) = r) := by
  unfold orMany
  split
  · exact .inl rfl
  · exact .inr ⟨rfl, rfl⟩
end Go.Proofs.X3
namespace Go.Proofs.Ytndefngkkikkeaa
open Go Go.RowKit Go.Lib
open X3 (errOf treeOf parseX mtB)

theorem parse_tree (s : ByteArray) (hs : s.size ≤ maxLen) (w : World) : Calls Try.prog 10 #[.string s] w fun e w' => ∃ (k x y z u : Int) (o : Option Addr) (n cc : Nat),
    e = .returned (.tuple #[nodeV k x y z u (.slice o n cc), .int .i64 (errOf (parseX (LL s)) : Int)]) ∧ Below w.heap.size w w' ∧ RepS (fun g => g < w'.heap.size) w' (treeOf (parseX (LL s))) (nodeV k x y z u (.slice o n cc)) := by
  refine (parse_any s w hs).mono ?_
  intro e w' h
  cases hR : parseX (LL s) with
  | inl c =>
    rw [hR] at h
    exact ⟨0, 0, 0, 0, 0, none, 0, 0, h.1, h.2, RepS.empty⟩
  | inr r =>
    rw [hR] at h
    obtain ⟨v, rfl, hr, hb⟩ := h
    obtain ⟨k, x, y, z, u, o, n, c, rfl⟩ := hr.shape
    exact ⟨k, x, y, z, u, o, n, c, rfl, hb, hr.monoS fun g _ hg => hg⟩
theorem match_tree (t : List UInt8) (s : ByteArray) (hs : s.size ≤ 1000) {w : World} {v : Value} (h : RepS (fun g => g < w.heap.size) w (treeOf (parseX t)) v) :
    Calls Try.prog 17 #[v, .string s] w fun e w' => e = .returned (.bool (mtB (treeOf (parseX t)) (LL s))) ∧ Below w.heap.size w w' :=
  match_any _ w _ v s h (Nat.le_trans (X3.tree_size t) (by decide)) hs
theorem null_tree (t : List UInt8) {w : World} {v : Value} (h : RepS (fun g => g < w.heap.size) w (treeOf (parseX t)) v) :
    Calls Try.prog 18 #[v] w fun e w' => e = .returned (.bool (X3.nullX (treeOf (parseX t)))) ∧ Below w.heap.size w w' :=
  null_any _ _ _ _ _ (Nat.le_refl _) (Nat.lt_of_le_of_lt (X3.tree_size t) (by decide)) h
theorem show_tree (t : List UInt8) {w : World} {v : Value} (h : RepS (fun g => g < w.heap.size) w (treeOf (parseX t)) v) :
    Calls Try.prog 13 #[v] w fun e w' => e = .returned (.string (bs (X3.showX (treeOf (parseX t))))) ∧ Below w.heap.size w w' :=
  Show_any h (Nat.le_trans (X3.tree_size t) (by decide))
end Go.Proofs.Ytndefngkkikkeaa

/- A region that draws its order, whose operations and callees leave what lay before them as it lay: one walk of the lexical order serves every order. The class of worlds: what lies below is as it was. -/
namespace Go.Proofs.Ytndefngkkikkeaa
open Go Go.RowKit

theorem wp_region_below {P : Program} {id : Nat} {Q : Exit → Act → World → Prop} {a : Act} {w : World} {l : List Oper} (hm : P.follows .mixedOrders = true) (hB : Region.lexB .any l.toArray = true)
    (h : wpQuiet P l.toArray (Below w.heap.size w) (fun a' => ∀ w', Below w.heap.size w w' → Q .normal a' w') l a) : (Code.region id l.toArray true).wp P Q a w :=
  wp_region_quiet (C := Below w.heap.size w) hm hB (below_drewN (Below.refl _ _) 1) (by simpa using h)
theorem quiet_of {P : Program} {C : World → Prop} {o : Oper} {a : Act} {K : Act → Prop} {v : Value} (h : ∀ w, C w → o.quietAt P a C w v) (hk : K (a.put o.dst v)) : o.quiet P a C K := ⟨v, h, hk⟩
theorem below_call {P : Program} {f : FuncId} {args : Array Value} {n : Nat} {w0 w' : World} {v : Value} (hC : Below n w0 w') (hn : n ≤ w0.heap.size) (h : Calls P f args w' fun e w'' => e = .returned v ∧ Below w'.heap.size w' w'') :
    Calls P f args w' fun e w'' => e = .returned v ∧ Below n w0 w'' :=
  h.mono fun _ _ ⟨he, hb⟩ => ⟨he, hC.trans (hb.mono (Nat.le_trans hn hC.size))⟩
end Go.Proofs.Ytndefngkkikkeaa

/- Parse at a text, as a contract with an error and a tree; texts that are put together. -/
set_option linter.unusedVariables false
namespace Go.Proofs.Ytndefngkkikkeaa
open Go Go.RowKit Go.Lib
open X3 (errOf treeOf parseX mtB orMany)

def PC (t : ByteArray) (E : Int) (R : X3.RX) : Prop := ∀ w : World, Calls Try.prog 10 #[.string t] w fun e w' => ∃ (k x y z u : Int) (o : Option Addr) (n cc : Nat),
    e = .returned (.tuple #[nodeV k x y z u (.slice o n cc), .int .i64 E]) ∧ Below w.heap.size w w' ∧ RepS (fun g => g < w'.heap.size) w' R (nodeV k x y z u (.slice o n cc))
def MC (s : ByteArray) : Prop := ∀ (R : X3.RX) (w : World) (v : Value), RepS (fun g => g < w.heap.size) w R v → R.size ≤ 500 →
    Calls Try.prog 17 #[v, .string s] w fun e w' => e = .returned (.bool (mtB R (LL s))) ∧ Below w.heap.size w w'
theorem match_MC (s : ByteArray) (hs : s.size ≤ 1000) : MC s := fun R w v h hz => match_any _ w R v s h (Nat.le_trans hz (by decide)) hs
theorem parse_PC (t : ByteArray) (ht : t.size ≤ maxLen) : ∃ (E : Int) (R : X3.RX), PC t E R ∧ R.size ≤ 500 ∧ ((E ≠ 0 ∧ errOf (parseX (LL t)) ≠ 0) ∨ (E = 0 ∧ parseX (LL t) = .inr R)) ∧ ∀ r, parseX (LL t) = orMany r → E = 4 ∨ (E = 0 ∧ R = r) := by
  refine ⟨_, _, parse_tree t ht, X3.tree_size _, ?_, ?_⟩
  · rcases X3.parse_is (LL t) with h | h
    · exact .inl ⟨by omega, h⟩
    · exact .inr ⟨by rw [h.1]; rfl, h.2⟩
  · intro r h
    rw [h]
    rcases X3.many_is r with h | h
    · exact .inl (by rw [h]; rfl)
    · exact .inr ⟨by rw [h.1]; rfl, h.2⟩
theorem ll_app (a b : ByteArray) : LL (a ++ b) = LL a ++ LL b := by
  unfold LL
  rw [ByteArray.data_append, Array.toList_append]
theorem size_app (a b : ByteArray) : (a ++ b).size = a.size + b.size := ByteArray.size_append
theorem ll_len (a : ByteArray) : (LL a).length = a.size := rfl
theorem ll_sign (a : ByteArray) (b : UInt8) : LL (({ data := #[40] } : ByteArray) ++ a ++ { data := #[41, b] }) = 40 :: (LL a ++ 41 :: [b]) := by
  rw [ll_app, ll_app]; simp [LL]
theorem ll_pair_star (a b : ByteArray) : LL (({ data := #[40] } : ByteArray) ++ a ++ { data := #[41, 40] } ++ b ++ { data := #[41, 42] }) = 40 :: (LL a ++ 41 :: (40 :: (LL b ++ [41, 42]))) := by
  rw [ll_app, ll_app, ll_app, ll_app]; simp [LL]
theorem ll_pair (a b : ByteArray) : LL (({ data := #[40] } : ByteArray) ++ a ++ { data := #[41, 40] } ++ b ++ { data := #[41] }) = 40 :: (LL a ++ 41 :: (40 :: (LL b ++ [41]))) := by
  rw [ll_app, ll_app, ll_app, ll_app]; simp [LL]
theorem ll_bar (a b : ByteArray) : LL (({ data := #[40] } : ByteArray) ++ a ++ { data := #[41, 124, 40] } ++ b ++ { data := #[41] }) = 40 :: (LL a ++ 41 :: (124 :: 40 :: (LL b ++ [41]))) := by
  rw [ll_app, ll_app, ll_app, ll_app]; simp [LL]
theorem ll_bar_none (a : ByteArray) : LL (({ data := #[40] } : ByteArray) ++ a ++ { data := #[41, 124, 91, 93] }) = 40 :: (LL a ++ 41 :: [124, 91, 93]) := by
  rw [ll_app, ll_app]; simp [LL]
theorem ll_pair_none (a : ByteArray) : LL (({ data := #[40] } : ByteArray) ++ a ++ { data := #[41, 91, 93] }) = 40 :: (LL a ++ 41 :: [91, 93]) := by
  rw [ll_app, ll_app]; simp [LL]
theorem ll_round (a : ByteArray) : LL (({ data := #[91, 93, 42, 40] } : ByteArray) ++ a ++ { data := #[41, 40, 41] }) = 91 :: 93 :: 42 :: 40 :: (LL a ++ 41 :: [40, 41]) := by
  rw [ll_app, ll_app]; simp [LL]
end Go.Proofs.Ytndefngkkikkeaa
