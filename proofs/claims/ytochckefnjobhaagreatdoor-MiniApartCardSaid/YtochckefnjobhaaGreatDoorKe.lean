/- mini.joined's closure: the number of a state. -/
import Derived.Test.YtochckefnjobhaaGreatDoorKd
namespace Go.Proofs.YtochckefnjobhaaGreatDoor
open Go Go.RowKit Go.Lib
open X5 (Aut)
set_option linter.unusedVariables false
set_option linter.unusedSimpArgs false
theorem keyed3 : Maps.Keyed Tryz.prog 3 := Maps.int_keyed Tryz.underlying3
theorem key3 {z : Int} (h0 : -9223372036854775808 ≤ z) (h1 : z ≤ 9223372036854775807) : ∃ l, keyOf Tryz.prog 3 (.int .i64 z) = some l :=
 ⟨_, Maps.keyOf_int_mk Tryz.underlying3 (wf_i64 h0 h1)⟩
theorem wp_put {P : Program} {k e t : TypeId} {w : World} {b : Nat} {L : List (Value × Value)} {o : Oper} {a : Act} {K' : Act → World → Prop} {Q : Exit → Act → World → Prop} (m x v : Operand) (hop : o.op = Op.mapUpdate t m x v)
  (K : Maps.Keyed P k) (ht : P.underlying t = some (.map k e)) (hm : a.eval m = .map (some b)) (h : MapIs P k w b L) (xv vv : Value) (lx : Lit) (hx : a.eval x = xv) (hv : a.eval v = vv) (hkey : keyOf P k xv = some lx) (hn : ∀ p ∈ L, p.1 ≠ xv)
  (hK : ∀ w', MapIs P k w' b (L ++ [(xv, vv)]) → w.grownBy w' (some b) → K' (a.put o.dst undef) w') : o.wp P a w K' Q := by
 obtain ⟨w', hrun, h1, h2⟩ := h.put (v := vv) K ht hkey hn
 unfold Oper.wp
 simp [execOp, hop, hm, hx, hv, hrun, Result.andThen]
 exact hK w' h1 h2
structure JM (Bk : List Int) (st : List Nat) (L : List (Value × Value)) : Prop where
 on : ∀ (i : Nat) s, st[i]? = some s → Bk.getD s (-1) ≠ -1 → (Value.int .i64 (Bk.getD s (-1)), Value.int .i64 (i : Int)) ∈ L
 off : ∀ p ∈ L, ∃ s ∈ st, p.1 = Value.int .i64 (Bk.getD s (-1))
structure StI (B nb mb sb : Nat) (Bk : List Int) (st : List Nat) (L : List (Value × Value)) (v : Value) (w : World) : Prop where
 n : w.heap[nb]? = some (.cells #[.map (some mb)] 121 (0, 0))
 m : MapIs Tryz.prog 3 w mb L
 s : w.heap[sb]? = some (.cells #[v] 87 (0, 0))
 r : w.ownsRow B 3 1 v st.length (ints st)
 jm : JM Bk st L
 ne : nb ≠ mb ∧ nb ≠ sb ∧ mb ≠ sb ∧ B ≤ nb ∧ B ≤ mb ∧ B ≤ sb
 off : ∀ a, v.ownBlock = some a → a ≠ nb ∧ a ≠ mb ∧ a ≠ sb
theorem StI.kept {B nb mb sb : Nat} {Bk : List Int} {st : List Nat} {L : List (Value × Value)} {v : Value} {w w' : World} (h : StI B nb mb sb Bk st L v w) (hk : ∀ b ∈ ([nb, mb, sb] ++ v.ownBlock.toList), w'.heap[b]? = w.heap[b]?) : StI B nb mb sb Bk st L v w' :=
 ⟨(hk nb (by simp)).trans h.n, h.m.kept (hk mb (by simp)), (hk sb (by simp)).trans h.s, owns_kept h.r fun g hg => hk g (by rw [hg]; simp), h.jm, h.ne, h.off⟩
def stI (B nb mb sb : Nat) (Bk : List Int) (st : List Nat) (L : List (Value × Value)) (v : Value) : Item where
 bl := [nb, mb, sb] ++ v.ownBlock.toList
 ok w := StI B nb mb sb Bk st L v w
 kept h hw := hw.kept h
theorem StI.lt {B nb mb sb : Nat} {Bk : List Int} {st : List Nat} {L : List (Value × Value)} {v : Value} {w : World} (h : StI B nb mb sb Bk st L v w) : ∀ b ∈ ([nb, mb, sb] ++ v.ownBlock.toList), B ≤ b ∧ b < w.heap.size := by
 intro b hb
 simp only [List.mem_append, List.mem_cons, List.not_mem_nil, or_false, Option.mem_toList] at hb
 rcases hb with (rfl | rfl | rfl) | hb
 ·exact ⟨h.ne.2.2.2.1, (Array.getElem?_eq_some_iff.1 h.n).1⟩
 ·exact ⟨h.ne.2.2.2.2.1, h.m.lt⟩
 ·exact ⟨h.ne.2.2.2.2.2, (Array.getElem?_eq_some_iff.1 h.s).1⟩
 ·exact owns_lt h.r b hb
theorem JM.push {Bk : List Int} {st : List Nat} {L : List (Value × Value)} (h : JM Bk st L) (z : Nat) : JM Bk (st ++ [z]) (L ++ [(.int .i64 (Bk.getD z (-1)), .int .i64 (st.length : Int))]) where
 on i s hi hn := by
  rcases Nat.lt_or_ge i st.length with hl | hl
  ·rw [List.getElem?_append_left hl] at hi
   exact List.mem_append.2 (.inl (h.on i s hi hn))
  ·rw [List.getElem?_append_right hl] at hi
   have hj := (List.getElem?_eq_some_iff.1 hi).1
   have hi0 : i = st.length := by simp at hj; omega
   subst hi0
   simp at hi
   subst hi
   simp
 off p hp := by
  rcases List.mem_append.1 hp with hp | hp
  ·obtain ⟨s, hs, e⟩ := h.off p hp
   exact ⟨s, List.mem_append.2 (.inl hs), e⟩
  ·simp at hp
   subst hp
   exact ⟨z, by simp, rfl⟩
def NumP (B nb mb sb : Nat) (Bk : List Int) (st : List Nat) (v : Value) (z : Int) (w : World) (e : Ending) (w' : World) : Prop :=
 ∃ v' L', e = .returned (.int .i64 (X6.numJ Bk z st).1) ∧ StI B nb mb sb Bk (X6.numJ Bk z st).2 L' v' w' ∧ Touch ([nb, mb, sb] ++ v.ownBlock.toList) w w' ∧ ∀ a, v'.ownBlock = some a → v.ownBlock = some a ∨ w.heap.size ≤ a
theorem Touch.refl (T : List Nat) (w : World) : Touch T w w := ⟨rfl, rfl, rfl, Nat.le_refl _, fun _ _ _ => rfl⟩
theorem Touch.drewN (T : List Nat) {w w' : World} (h : Touch T w w') (n : Nat) : Touch T w (w'.drewN n) := h.trans (Touch.mono (Touch.below (below_drewN (Below.refl _ _) n)) (by simp))
set_option maxRecDepth 100000 in
set_option maxHeartbeats 8000000 in
theorem numberJ_any {w : World} {B bb nb mb sb N : Nat} {bo : Option Addr} {bc : Nat} {Bk : List Int} {st : List Nat} {L : List (Value × Value)} {v : Value} (hN : N ≤ 1000000) (hb : w.heap[bb]? = some (.cells #[.slice bo N bc] 87 (0, 0))) (hbb : bb ≠ nb ∧ bb ≠ mb ∧ bb ≠ sb ∧ bb < B) (hr : RowAtI w (.slice bo N bc) Bk) (hbl : Bk.length = N) (hbr : ∀ x ∈ Bk, -1 ≤ x ∧ x < 2147483648)
  (hoff : ∀ a, bo = some a → a.block < B) (hB : B ≤ w.heap.size) (hst : st.length ≤ 1000000) (h : StI B nb mb sb Bk st L v w) (z : Int) (hz0 : -1 ≤ z) (hz1 : z < (N : Int)) :
  Calls Tryz.prog 70 #[.int .i64 z, .pointer (some ⟨bb, 0, none⟩), .pointer (some ⟨nb, 0, none⟩), .pointer (some ⟨sb, 0, none⟩)] w (NumP B nb mb sb Bk st v z w) := by
 have cb : w.cell? ⟨bb, 0, none⟩ = some (.slice bo N bc) := by rw [Lib.cell_of_heap hb]; rfl
 have HSt := hid h
 by_cases hneg : z < 0
 ·have e : X6.numJ Bk z st = (-1, st) := by unfold X6.numJ; rw [if_pos (.inl hneg)]
  have HE := hid e
  have g1 : decide (z < 0) = true := by simpa using hneg
  clear e h hr hb hbr
  go_enter Tryz.func70, Tryz.ntmps70
  go_wp2_with fail
  go_ret
  exact ⟨v, L, by rw [HE.out]; rfl, by rw [HE.out]; exact HSt.out, Touch.refl _ _, fun a ha => .inl ha⟩
 ·obtain ⟨k, rfl⟩ : ∃ k : Nat, z = (k : Int) := ⟨z.toNat, by omega⟩
  have g1 : decide ((k : Int) < 0) = false := by simp
  obtain ⟨bk, hbk⟩ : ∃ bk, Bk[k]? = some bk := ⟨_, List.getElem?_eq_getElem (by omega)⟩
  obtain ⟨bg, boff, hbo, hbgl, cbk⟩ := rowAt_get hr hbk
  subst hbo
  have g2 : (0 : Int) ≤ (k : Int) := by omega
  have hbkr := hbr bk (List.mem_of_getElem? hbk)
  have hgd : Bk.getD k (-1) = bk := by rw [List.getD_eq_getElem?_getD, hbk]; rfl
  by_cases hd : bk = -1
  ·have e : X6.numJ Bk (k : Int) st = (-1, st) := by unfold X6.numJ; rw [if_pos (.inr (by rw [Int.toNat_natCast, hgd]; exact hd))]
   have HE := hid e
   subst hd
   clear e h hr hb hbr hbk hgd
   go_enter Tryz.func70, Tryz.ntmps70
   go_wp2_with fail
   go_ret
   exact ⟨v, L, by rw [HE.out]; rfl, by rw [HE.out]; exact HSt.out, Touch.refl _ _, fun a ha => .inl ha⟩
  ·have g3 : (bk == -1) = false := by rw [beq_eq_false_iff_ne]; exact hd
   have hcond : ¬ ((k : Int) < 0 ∨ Bk.getD (k : Int).toNat (-1) = -1) := by rw [Int.toNat_natCast, hgd]; omega
   have cn : w.cell? ⟨nb, 0, none⟩ = some (.map (some mb)) := by rw [Lib.cell_of_heap h.n]; rfl
   have HR := hid hr
   have HBB := hid hbb
   have hbgB := hoff _ rfl
   simp only at hbgB
   obtain ⟨lx, hlx⟩ := key3 (z := bk) (by omega) (by omega)
   have HLX := hid hlx
   have HGD := hid hgd
   cases hf : st.findIdx? (fun s => Bk.getD s (-1) == Bk.getD k (-1)) with
   | some i =>
    have e : X6.numJ Bk (k : Int) st = ((i : Int), st) := by unfold X6.numJ; rw [if_neg hcond, Int.toNat_natCast, hf]
    have HE := hid e
    obtain ⟨hi, hp, hrest⟩ := List.findIdx?_eq_some_iff_getElem.1 hf
    clear hrest
    have hp2 : Bk.getD st[i] (-1) = bk := by rw [← hgd]; simpa using hp
    have hmem : (Value.int .i64 bk, Value.int .i64 (i : Int)) ∈ L := by
     have := h.jm.on i st[i] (List.getElem?_eq_getElem hi) (by rw [hp2]; exact hd)
     rwa [hp2] at this
    have hlook : ∀ n, (Instr.lookup 121 (.map (some mb)) (.int .i64 bk) true).run Tryz.prog (w.drewN n) = .ok (.tuple #[.int .i64 (i : Int), .bool true]) (w.drewN n) := fun n => (h.m.below (below_drewN (Below.refl _ _) n)).look_some keyed3 Tryz.underlying121 hlx hmem
    clear e h hr hb hbr hbk hgd hf hi hp hp2 hmem hlx hcond hbb
    go_enter Tryz.func70, Tryz.ntmps70
    go_wp2_with fail
    go_quiet (fail)
    go_wp2_with fail
    go_ret
    exact ⟨v, L, by rw [HE.out]; rfl, by rw [HE.out]; exact HSt.out.kept (fun _ _ => rfl), Touch.drewN _ (Touch.refl _ _) _, fun a ha => .inl ha⟩
   | none =>
    have e : X6.numJ Bk (k : Int) st = ((st.length : Int), st ++ [k]) := by unfold X6.numJ; rw [if_neg hcond, Int.toNat_natCast, hf]
    have hn := List.findIdx?_eq_none_iff.1 hf
    have hnone : ∀ p ∈ L, p.1 ≠ Value.int .i64 bk := by
     intro p hp he
     obtain ⟨s, hs, e⟩ := h.jm.off p hp
     rw [e] at he
     injection he with _ he
     have := hn s hs
     rw [hgd, he] at this
     simp at this
    have hlook : ∀ n, (Instr.lookup 121 (.map (some mb)) (.int .i64 bk) true).run Tryz.prog (w.drewN n) = .ok (.tuple #[.int .i64 0, .bool false]) (w.drewN n) := fun n => (h.m.below (below_drewN (Below.refl _ _) n)).look_none keyed3 Tryz.underlying121 hlx (zero3 _) hnone
    have HNone := hid hnone
    obtain ⟨so, sc, rfl⟩ := own_shape h.r
    have cs : w.cell? ⟨sb, 0, none⟩ = some (.slice so st.length sc) := by rw [Lib.cell_of_heap h.s]; rfl
    have hsbl := (Array.getElem?_eq_some_iff.1 h.s).1
    have hbbl := (Array.getElem?_eq_some_iff.1 hb).1
    have hnbl := (Array.getElem?_eq_some_iff.1 h.n).1
    obtain ⟨n, hnn⟩ : ∃ n, st.length = n := ⟨_, rfl⟩
    rw [hnn] at cs hst e
    have HE := hid e
    have HNN := hid hnn
    have HBk := hid hb
    clear e h hr hb hbr hbk hgd hf hn hnone hlx hcond hbb hnn
    go_enter Tryz.func70, Tryz.ntmps70
    go_wp2_with fail
    go_quiet (fail)
    go_wp2_with fail
    obtain ⟨wq, ewq⟩ : ∃ wq, (w.drewN nq).drew = wq := ⟨_, rfl⟩
    have hbq : Below w.heap.size w wq := by rw [← ewq]; exact (below_drewN (Below.refl _ _) nq).drew
    have hqq : ∀ g : Nat, wq.heap[g]? = w.heap[g]? := fun g => by rw [← ewq]; rfl
    have hsq : wq.heap.size = w.heap.size := by rw [← ewq]; rfl
    have HStq := hid (HSt.out.kept (w' := wq) fun b _ => hqq b)
    have HQ := hid (And.intro hbq (And.intro hqq hsq))
    have HH : wq.cell? ⟨nb, 0, none⟩ = some (.map (some mb)) ∧ wq.cell? ⟨bb, 0, none⟩ = some (.slice (some ⟨bg, boff, none⟩) N bc) ∧ wq.cell? ⟨bg, boff + k, none⟩ = some (.int .i64 bk) :=
     ⟨(World.cell?_of_block (a := ⟨nb, 0, none⟩) (hqq nb)).trans cn, (World.cell?_of_block (a := ⟨bb, 0, none⟩) (hqq bb)).trans cb, (World.cell?_of_block (a := ⟨bg, boff + k, none⟩) (hqq bg)).trans cbk⟩
    clear hbq hqq hsq
    refine region_T 6 (fun w' => w'.cell? ⟨nb, 0, none⟩ = some (.map (some mb)) ∧ w'.cell? ⟨bb, 0, none⟩ = some (.slice (some ⟨bg, boff, none⟩) N bc) ∧ w'.cell? ⟨bg, boff + k, none⟩ = some (.int .i64 bk)) (by kernel_rfl) (by rw [ewq]; exact HH) (fun inv hHeld => ?_)
    rw [ewq]
    clear hHeld ewq
    refine anyT_take (i := 0) (oi := { dst := some 30, op := Go.Op.load 121 (Go.Operand.tmp 2), type := 121, pos := "mini.go:150", after := #[], guard := none }) (v := ?_) rfl (by kernel_rfl) (by kernel_rfl) (by kernel_rfl) (by decide) (by decide) (by kernel_rfl) (by kernel_rfl) (fun _ _ _ h => h) (Or.inl ⟨by rfl, ?_⟩) HH inv (fun inv => ?_)
    rotate_left
    ·intro w hSw
     try dsimp only at hSw
     go_simp
     try with_reducible rfl
    simp only [Act.put, List.setIfInBounds_toArray, List.set_cons_zero, List.set_cons_succ]
    refine anyT_take (i := 1) (oi := { dst := some 31, op := Go.Op.load 87 (Go.Operand.tmp 1), type := 87, pos := "mini.go:150", after := #[], guard := none }) (v := ?_) rfl (by kernel_rfl) (by kernel_rfl) (by kernel_rfl) (by decide) (by decide) (by kernel_rfl) (by kernel_rfl) (fun _ _ _ h => h) (Or.inl ⟨by rfl, ?_⟩) HH inv (fun inv => ?_)
    rotate_left
    ·intro w hSw
     try dsimp only at hSw
     go_simp
     try with_reducible rfl
    simp only [Act.put, List.setIfInBounds_toArray, List.set_cons_zero, List.set_cons_succ]
    refine anyT_take (i := 2) (oi := { dst := some 32, op := Go.Op.move (Go.Operand.tmp 0), type := 3, pos := "mini.go:150", after := #[], guard := none }) (v := ?_) rfl (by kernel_rfl) (by kernel_rfl) (by kernel_rfl) (by decide) (by decide) (by kernel_rfl) (by kernel_rfl) (fun _ _ _ h => h) (Or.inl ⟨by rfl, ?_⟩) HH inv (fun inv => ?_)
    rotate_left
    ·intro w hSw
     try dsimp only at hSw
     go_simp
     try with_reducible rfl
    simp only [Act.put, List.setIfInBounds_toArray, List.set_cons_zero, List.set_cons_succ]
    refine anyT_take (i := 3) (oi := { dst := some 33, op := Go.Op.indexAddr 87 (Go.Operand.tmp 31) (Go.Operand.tmp 32), type := 0, pos := "mini.go:150", after := #[{ on := 1, ground := Go.Ground.data }, { on := 2, ground := Go.Ground.data }], guard := none }) (v := ?_) rfl (by kernel_rfl) (by kernel_rfl) (by kernel_rfl) (by decide) (by decide) (by kernel_rfl) (by kernel_rfl) (fun _ _ _ h => h) (Or.inl ⟨by rfl, ?_⟩) HH inv (fun inv => ?_)
    rotate_left
    ·intro w hSw
     try dsimp only at hSw
     go_simp
     try with_reducible rfl
    simp only [Act.put, List.setIfInBounds_toArray, List.set_cons_zero, List.set_cons_succ]
    refine anyT_take (i := 4) (oi := { dst := some 34, op := Go.Op.load 3 (Go.Operand.tmp 33), type := 3, pos := "mini.go:150", after := #[{ on := 3, ground := Go.Ground.data }], guard := none }) (v := ?_) rfl (by kernel_rfl) (by kernel_rfl) (by kernel_rfl) (by decide) (by decide) (by kernel_rfl) (by kernel_rfl) (fun _ _ _ h => h) (Or.inl ⟨by rfl, ?_⟩) HH inv (fun inv => ?_)
    rotate_left
    ·intro w hSw
     try dsimp only at hSw
     go_simp
     try with_reducible rfl
    simp only [Act.put, List.setIfInBounds_toArray, List.set_cons_zero, List.set_cons_succ]
    refine anyT_take (i := 5) (oi := { dst := some 35, op := Go.Op.move (Go.Operand.tmp 6), type := 3, pos := "mini.go:150", after := #[], guard := none }) (v := ?_) rfl (by kernel_rfl) (by kernel_rfl) (by kernel_rfl) (by decide) (by decide) (by kernel_rfl) (by kernel_rfl) (fun _ _ _ h => h) (Or.inl ⟨by rfl, ?_⟩) HH inv (fun inv => ?_)
    rotate_left
    ·intro w hSw
     try dsimp only at hSw
     go_simp
     try with_reducible rfl
    simp only [Act.put, List.setIfInBounds_toArray, List.set_cons_zero, List.set_cons_succ]
    refine anyT_one (i := 6) (o := { dst := none, op := Go.Op.mapUpdate 121 (Go.Operand.tmp 30) (Go.Operand.tmp 34) (Go.Operand.tmp 35), type := 0, pos := "mini.go:150", after := #[{ on := 0, ground := Go.Ground.data }, { on := 4, ground := Go.Ground.data }, { on := 5, ground := Go.Ground.data }, { on := 0, ground := Go.Ground.phase }, { on := 1, ground := Go.Ground.phase }, { on := 2, ground := Go.Ground.phase }, { on := 3, ground := Go.Ground.phase }, { on := 4, ground := Go.Ground.phase }, { on := 5, ground := Go.Ground.phase }], guard := none }) (by kernel_rfl) rfl (fun K' hK => ?_)
    simp only [Region.wanted]
    rw [if_pos trivial]
    refine wp_put (.tmp 30) (.tmp 34) (.tmp 35) rfl keyed3 Tryz.underlying121 rfl HStq.out.m (.int .i64 bk) (.int .i64 (n : Int)) lx rfl rfl HLX.out HNone.out ?_
    intro w5 hm5 hg5
    refine hK.out _ _ (fun h => absurd h (by decide)) ?_
    clear hK K'
    simp only [Act.put, List.setIfInBounds_toArray, List.set_cons_zero, List.set_cons_succ]
    refine anyT_done (by kernel_rfl) ?_ _
    have hs5 := hg5.size
    have h5k : ∀ g : Nat, g < w.heap.size → g ≠ mb → w5.heap[g]? = w.heap[g]? := fun g hg hne => (hg5.block g (by rw [HQ.out.2.2]; exact hg) (fun e => hne (by injection e))).trans (HQ.out.2.1 g)
    have hsb5 : w5.heap[sb]? = some (.cells #[.slice so n sc] 87 (0, 0)) := by
     rw [h5k sb hsbl (fun e => HSt.out.ne.2.2.1 e.symm), ← HNN.out]; exact HSt.out.s
    have cs5 : w5.cell? ⟨sb, 0, none⟩ = some (.slice so n sc) := by rw [Lib.cell_of_heap hsb5]; rfl
    have hsbl5 := (Array.getElem?_eq_some_iff.1 hsb5).1
    obtain ⟨w6, e6⟩ : ∃ w6, w5.alloc (.cells #[.int .i64 (k : Int)] 3) = w6 := ⟨_, rfl⟩
    have hb6 : Below w5.heap.size w5 w6 := by rw [← e6]; exact (Below.refl _ _).alloc (Nat.le_refl _) _
    have hs6 : w6.heap.size = w5.heap.size + 1 := by rw [← e6]; simp
    have HN6 := hid (show w6.heap[w5.heap.size]? = some (.cells #[.int .i64 (k : Int)] 3 (0, 0)) from by rw [← e6]; exact new_block _ _)
    have hrw := HSt.out.r
    rw [HNN.out] at hrw
    have HO6 := hid (owns_kept hrw fun g hg => (hb6.block g (by have := (owns_lt hrw g hg).2; have := HQ.out.2.2; omega)).trans (h5k g (owns_lt hrw g hg).2 (HSt.out.off g (by rw [HNN.out]; exact hg)).2.1))
    have HSZ := hid (And.intro hs5 hs6)
    have hBw : B ≤ w6.heap.size := by have := HQ.out.2.2; omega
    have H5 := hid (And.intro hm5 (And.intro hg5 (And.intro h5k hb6)))
    clear hm5 hg5 h5k hb6 hrw hs5 hs6
    go_wp2_with (at_builtin; refine wpList_push1 rfl (.tmp 36) (.tmp 38) 87 3 rfl (.int .i64 0) 8 Tryz.underlying87 info3 rfl (by decide) B (.slice so n sc) n (ints st) rfl HO6.out w5.heap.size rfl (.int .i64 (k : Int)) HN6.out rfl (by omega) hBw ?_)
    intro v7 w7 hown7 hg7 hat7
    obtain ⟨so7, sc7, rfl⟩ := own_shape hown7
    have hvb : ∀ g, (Value.slice so n sc).ownBlock = some g → g ≠ nb ∧ g ≠ mb ∧ g ≠ sb := fun g hg => HSt.out.off g (by rw [HNN.out]; exact hg)
    have hsb7 : w7.heap[sb]? = some (.cells #[.slice so n sc] 87 (0, 0)) := by
     rw [hg7.block sb (by have := HSZ.out; omega) (fun e => (hvb sb e.symm).2.2 rfl), H5.out.2.2.2.block sb hsbl5]
     exact hsb5
    have cs7 : w7.cell? ⟨sb, 0, none⟩ = some (.slice so n sc) := by rw [Lib.cell_of_heap hsb7]; rfl
    have fs7 := Lib.frozen_of_heap hsb7 0
    have H7 := hid (And.intro hown7 (And.intro hg7 (And.intro hat7 (And.intro hsb7 hvb))))
    clear hown7 hg7 hat7 hsb7 hvb hsb5 cs5 e6
    go_wp2_with fail
    go_ret
    obtain ⟨hown7, hg7, hat7, hsb7, hvb⟩ := H7.out
    obtain ⟨hm5, hg5, h5k, hb6⟩ := H5.out
    obtain ⟨hs5, hs6⟩ := HSZ.out
    have hs7 := hg7.size
    have hsq := HQ.out.2.2
    have h8k : ∀ g : Nat, g < w.heap.size → g ≠ sb → (∀ a, (Value.slice so n sc).ownBlock = some a → a ≠ g) → (w7.setCell ⟨sb, 0, none⟩ (.slice so7 (n + 1) sc7)).heap[g]? = w5.heap[g]? := fun g hg h1 h2 => by
     rw [Below.heap_setCell w7 ⟨sb, 0, none⟩ _ g h1, hg7.block g (by omega) (fun e => h2 g e.symm rfl), hb6.block g (by omega)]
    have hne := HSt.out.ne
    have hnb5 : w5.heap[nb]? = some (.cells #[.map (some mb)] 121 (0, 0)) := (h5k nb hnbl hne.1).trans HSt.out.n
    have hm5l := hm5.lt
    have hmbl := HSt.out.m.lt
    have hv7 : ∀ a, (Value.slice so7 (n + 1) sc7).ownBlock = some a → (Value.slice so n sc).ownBlock = some a ∨ w6.heap.size ≤ a := fun a ha => by
     rcases hat7 with h | h
     ·exact .inl (by rw [← h]; exact ha)
     ·rw [h] at ha; injection ha with ha; exact .inr (by omega)
    refine ⟨.slice so7 (n + 1) sc7, L ++ [(.int .i64 bk, .int .i64 (n : Int))], by rw [HE.out, ← HNN.out]; rfl, ?_, ?_, fun a ha => ?_⟩
    ·rw [HE.out]
     refine ⟨(h8k nb hnbl hne.2.1 (fun a ha e => (hvb a ha).1 e)).trans hnb5, hm5.kept (h8k mb hmbl hne.2.2.1 (fun a ha e => (hvb a ha).2.1 e)), ?_, ?_, by rw [← HGD.out, ← HNN.out]; exact HSt.out.jm.push k, hne, fun a ha => ?_⟩
     ·rw [heap_setCell_same w7 sb 0 _ 87 _ hsb7]; rfl
     ·have e9 : ints (st ++ [k]) = ints st ++ [.int .i64 (k : Int)] := by simp [ints]
      show World.ownsRow _ B 3 1 _ (st ++ [k]).length _
      rw [e9, List.length_append, List.length_singleton, HNN.out]
      refine owns_kept hown7 fun g hg => Below.heap_setCell w7 ⟨sb, 0, none⟩ _ g (fun e => ?_)
      rcases hv7 g hg with h | h
      ·exact (hvb g h).2.2 e
      ·have e2 : g = sb := e
       omega
     ·rcases hv7 a ha with h | h
      ·exact hvb a h
      ·omega
    ·refine ⟨?_, ?_, ?_, ?_, fun g hg hn => ?_⟩
     ·exact hg7.os.trans (hb6.os.trans (hg5.os.trans HQ.out.1.os))
     ·exact hg7.tape.trans (hb6.tape.trans (hg5.tape.trans HQ.out.1.tape))
     ·exact hg7.output.trans (hb6.output.trans (hg5.output.trans HQ.out.1.output))
     ·rw [World.size_setCell]; omega
     ·simp only [List.mem_append, List.mem_cons, List.not_mem_nil, or_false, Option.mem_toList, not_or] at hn
      exact (h8k g hg hn.1.2.2 (fun a ha e => hn.2 (by rw [HNN.out, ← e]; exact ha))).trans (h5k g hg hn.1.2.1)
    ·rcases hv7 a ha with h | h
     ·exact .inl (by rw [HNN.out]; exact h)
     ·exact .inr (by omega)
end Go.Proofs.YtochckefnjobhaaGreatDoor
