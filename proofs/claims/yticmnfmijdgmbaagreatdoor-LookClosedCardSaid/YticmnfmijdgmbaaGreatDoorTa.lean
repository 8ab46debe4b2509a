/- What is ahead: the least sets of a grammar; what comes behind a dot; what lies in memory. -/
import Derived.Test.YticmnfmijdgmbaaGreatDoorXc
import Derived.Test.YticmnfmijdgmbaaGreatDoorQMl
import Derived.Test.YticmnfmijdgmbaaGreatDoorQHs
namespace Go.Proofs.YticmnfmijdgmbaaGreatDoor.S13
open X14 (It)
set_option linter.unusedVariables false
theorem least_exists {k : Bool} {ps : List PD} {n : Nat} (hs : ∀ p ∈ ps, p.sort.toNat < n) : ∃ L, Least k ps n L := by
 have key : ∀ (c : Nat) (L : List Bool), L.count false ≤ c → Reach k ps (List.replicate n false) L → L.length = n → ∃ L', Least k ps n L' := by
  intro c
  induction c with
  | zero =>
   intro L hc hr hl
   refine ⟨L, hr, fun p hp ha => ?_⟩
   rcases step_cases k L p (by rw [hl]; exact hs p hp) with ⟨_, _, h⟩ | ⟨_, h⟩
   ·exact h ha
   ·omega
  | succ c ih =>
   intro L hc hr hl
   by_cases hcl : Closed k ps L
   ·exact ⟨L, hr, hcl⟩
   ·obtain ⟨p, hp⟩ := Classical.not_forall.1 hcl
    obtain ⟨hp1, hp2⟩ := Classical.not_imp.1 hp
    obtain ⟨hp3, hp4⟩ := Classical.not_imp.1 hp2
    rcases step_cases k L p (by rw [hl]; exact hs p hp1) with ⟨_, _, h⟩ | ⟨_, h⟩
    ·exact absurd (h hp3) hp4
    ·exact ih _ (by omega) (.step hr hp1) (by rw [stepB_length]; exact hl)
 exact key _ _ (Nat.le_refl _) .refl (by simp)
theorem leastS_exists {evs : List Ev} {n : Nat} (h1 : ∀ e ∈ evs, e.1 < n) (h2 : ∀ e ∈ evs, SetEv e) : ∃ L, LeastS evs n L := by
 have key : ∀ (c : Nat) (L : List Nat), room L ≤ c → ReachS evs (List.replicate n 0) L → L.length = n → (∀ x ∈ L, x < top) → ∃ L', LeastS evs n L' := by
  intro c
  induction c with
  | zero =>
   intro L hc hr hl ht
   refine ⟨L, hr, fun e he => ?_, ht⟩
   rcases stepS_cases L e (by rw [hl]; exact h1 e he) ht (h2 e he L ht) with ⟨_, _, h⟩ | ⟨_, h⟩
   ·exact h
   ·omega
  | succ c ih =>
   intro L hc hr hl ht
   by_cases hcl : ClosedS evs L
   ·exact ⟨L, hr, hcl, ht⟩
   ·obtain ⟨e, he⟩ := Classical.not_forall.1 hcl
    obtain ⟨he1, he2⟩ := Classical.not_imp.1 he
    rcases stepS_cases L e (by rw [hl]; exact h1 e he1) ht (h2 e he1 L ht) with ⟨_, _, h⟩ | ⟨_, h⟩
    ·exact absurd h he2
    ·exact ih _ (by omega) (.step hr he1) (by rw [stepS_length]; exact hl) (set_lt ht _ (or_lt (getD_lt ht _) (h2 e he1 L ht)))
 exact key _ _ (Nat.le_refl _) .refl (by simp) (fun x hx => by rw [List.eq_of_mem_replicate hx]; decide)
noncomputable def E0 (G : GD) : List Bool := Classical.epsilon (Least false G.prods G.sorts.length)
noncomputable def F0 (G : GD) : List Nat := Classical.epsilon (LeastS (evF G.terms.length (E0 G) G.prods) G.sorts.length)
theorem e0_least {G : GD} (hV : validB G = true) : Least false G.prods G.sorts.length (E0 G) :=
 Classical.epsilon_spec (least_exists fun p hp => by have := valid_rows hV p hp; omega)
theorem f0_least {G : GD} (hV : validB G = true) : LeastS (evF G.terms.length (E0 G) G.prods) G.sorts.length (F0 G) :=
 Classical.epsilon_spec (leastS_exists (fun e he => by
  obtain ⟨p, hp, rfl⟩ := List.mem_map.1 he
  have := valid_rows hV p hp
  show p.sort.toNat < _
  omega) (fun e he => by
  obtain ⟨p, hp, rfl⟩ := List.mem_map.1 he
  exact fun L hL => ofRow_lt _ _ hL _ (by decide)))
theorem f0_noEnd {G : GD} (hV : validB G = true) : X15.NoEnd (F0 G) := by
 have hn := (valid_parts hV).1
 have hM : ∀ x ∈ List.replicate G.sorts.length (2 ^ 63 - 1), x = 2 ^ 63 - 1 := fun x hx => List.eq_of_mem_replicate hx
 have hle := (f0_least hV).leN (evF_mono _ _ _ _) (M := List.replicate G.sorts.length (2 ^ 63 - 1)) (by simp) (fun e he => by
  obtain ⟨p, hp, rfl⟩ := List.mem_map.1 he
  have hr := valid_rows hV p hp
  have hg : (List.replicate G.sorts.length (2 ^ 63 - 1)).getD p.sort.toNat 0 = 2 ^ 63 - 1 := by
   rw [List.getD_eq_getElem?_getD, List.getElem?_replicate, if_pos (by omega)]
   rfl
  show Sub (ofRow _ _ _ p.rs 0) ((List.replicate G.sorts.length (2 ^ 63 - 1)).getD p.sort.toNat 0)
  rw [hg]
  refine sub_iff.2 fun i hi => ?_
  have h64 : i < 64 := by
   rcases Nat.lt_or_ge i 64 with h | h
   ·exact h
   ·rw [testBit_hi (ofRow_lt _ _ (fun x hx => by rw [hM x hx]; decide) _ (by decide)) h] at hi
    cases hi
  have h63 : i ≠ 63 := fun e => by
   subst e
   rw [X15.ofRow_noEnd (fun x hx => by rw [hM x hx]; decide) hn] at hi
   cases hi
  rw [Nat.testBit_two_pow_sub_one]
  exact decide_eq_true (by omega))
 intro x hx
 obtain ⟨i, hi⟩ := List.mem_iff_getElem?.1 hx
 have h1 := hle i
 rw [X14.getD_get hi] at h1
 have h2 := sub_iff.1 h1 63
 cases hb : x.testBit 63
 ·rfl
 ·have h3 := h2 hb
  have hil := (List.getElem?_eq_some_iff.1 hi).1
  rw [(f0_least hV).length] at hil
  rw [List.getD_eq_getElem?_getD, List.getElem?_replicate, if_pos hil] at h3
  exact absurd h3 (by decide)
structure Com where
 is : Bool
 sym : Int
 fst : Nat
 emp : Bool
noncomputable def comX (G : GD) (x : It) : Com := match X14.behX G x with
 | none => ⟨false, 0, 0, false⟩
 | some s => if s < 0 then ⟨true, s, ofRow G.terms.length (E0 G) (F0 G) (X15.restX G x) 0, X15.nulB (E0 G) (F0 G).length (X15.restX G x)⟩ else ⟨true, s, 0, false⟩
theorem comX_none {G : GD} {x : It} (h : X14.behX G x = none) : comX G x = ⟨false, 0, 0, false⟩ := by unfold comX; rw [h]
theorem comX_term {G : GD} {x : It} {s : Int} (h : X14.behX G x = some s) (hs : ¬ s < 0) : comX G x = ⟨true, s, 0, false⟩ := by unfold comX; rw [h]; exact if_neg hs
theorem comX_sort {G : GD} {x : It} {s : Int} (h : X14.behX G x = some s) (hs : s < 0) : comX G x = ⟨true, s, ofRow G.terms.length (E0 G) (F0 G) (X15.restX G x) 0, X15.nulB (E0 G) (F0 G).length (X15.restX G x)⟩ := by unfold comX; rw [h]; exact if_pos hs
theorem comX_low {G : GD} (hV : validB G = true) (x : It) : (comX G x).fst < top := by
 cases h : X14.behX G x with
 | none => rw [comX_none h]; decide
 | some s =>
  by_cases hs : s < 0
  ·rw [comX_sort h hs]; exact ofRow_lt _ _ (f0_least hV).2.2 _ (by decide)
  ·rw [comX_term h hs]; exact (by decide : (0 : Nat) < top)
end Go.Proofs.YticmnfmijdgmbaaGreatDoor.S13
namespace Go.Proofs.YticmnfmijdgmbaaGreatDoor
open Go Go.RowKit Go.Lib
open X14 (It)
open Go.Maps (Keyed)
open S13 (u64 comX Com)
open S13.X15 (Pl)
set_option linter.unusedVariables false
set_option linter.unusedSimpArgs false
theorem wp_look2 {P : Program} {w : World} {o : Oper} {a : Act} {K : Act → World → Prop} {Q : Exit → Act → World → Prop} {b : Nat} (m x : Operand) (t : TypeId) (ok : Bool) (hop : o.op = Op.lookup t m x ok) (hm : a.eval m = .map (some b)) (xv v : Value) (hx : a.eval x = xv)
  (hrun : (Instr.lookup t (.map (some b)) xv ok).run P w = .ok v w) (hK : K (a.put o.dst v) w) : o.wp P a w K Q := by
 unfold Oper.wp
 simp [execOp, hop, hm, hx, hrun, Result.andThen]
 exact hK
theorem wp_mput {P : Program} {w w2 : World} {o : Oper} {a : Act} {K : Act → World → Prop} {Q : Exit → Act → World → Prop} {b : Nat} (m x v : Operand) (t : TypeId) (hop : o.op = Op.mapUpdate t m x v) (hm : a.eval m = .map (some b)) (xv vv : Value) (hx : a.eval x = xv) (hv : a.eval v = vv)
  (hrun : (Instr.mapUpdate t (.map (some b)) xv vv).run P w = .ok () w2) (hK : K (a.put o.dst undef) w2) : o.wp P a w K Q := by
 unfold Oper.wp
 simp [execOp, hop, hm, hx, hv, hrun, Result.andThen]
 exact hK
def plV (p : Pl) : Value := .agg #[.int .i64 (p.1 : Int), .int .i64 p.2.1, .int .i64 p.2.2]
def plC (p : Pl) : List Value := [.int .i64 (p.1 : Int), .int .i64 p.2.1, .int .i64 p.2.2]
def qcells (Q : List Pl) : List Value := Q.flatMap plC
theorem qcells_push (Q : List Pl) (p : Pl) : qcells (Q ++ [p]) = qcells Q ++ plC p := by unfold qcells; rw [List.flatMap_append]; simp
theorem qcells_cons (p : Pl) (Q : List Pl) : qcells (p :: Q) = plC p ++ qcells Q := by unfold qcells; rw [List.flatMap_cons]
theorem plV_inj {p q : Pl} (h : plV p = plV q) : p = q := by
 obtain ⟨a, b, c⟩ := p
 obtain ⟨x, y, z⟩ := q
 unfold plV at h
 simp only [Value.agg.injEq, Array.mk.injEq, List.cons.injEq, Value.int.injEq, and_true, true_and] at h
 obtain ⟨h1, h2, h3⟩ := h
 obtain rfl : a = x := by omega
 rw [h2, h3]
theorem itV_inj {x y : It} (h : itV x = itV y) : x = y := by
 unfold itV at h
 simp only [Value.agg.injEq, Array.mk.injEq, List.cons.injEq, Value.int.injEq, and_true, true_and] at h
 exact Prod.ext h.1 h.2
def amap (L : List (Pl × Nat)) : List (Value × Value) := L.map fun e => (plV e.1, u64 e.2)
def getA (L : List (Pl × Nat)) (p : Pl) : Nat := match L.find? fun e => decide (e.1 = p) with
 | some e => e.2
 | none => 0
theorem getA_none {L : List (Pl × Nat)} {p : Pl} (h : p ∉ L.map (·.1)) : getA L p = 0 := by
 unfold getA
 rw [List.find?_eq_none.2 (fun e he => by simp; intro e1; exact h (List.mem_map.2 ⟨e, he, e1⟩))]
theorem getA_some {L : List (Pl × Nat)} (hn : (L.map (·.1)).Nodup) {p : Pl} {v : Nat} (h : (p, v) ∈ L) : getA L p = v := by
 unfold getA
 induction L with
 | nil => cases h
 | cons a l ih =>
  rw [List.map_cons, List.nodup_cons] at hn
  rw [List.find?_cons]
  rcases List.mem_cons.1 h with e | e
  ·subst e
   simp
  ·by_cases e1 : a.1 = p
   ·exact absurd (List.mem_map.2 ⟨(p, v), e, e1.symm⟩) hn.1
   ·rw [decide_eq_false e1]
    exact ih hn.2 e
theorem amap_nodup {L : List (Pl × Nat)} (h : ((amap L).map (·.1)).Nodup) : (L.map (·.1)).Nodup := by
 have e : (amap L).map (·.1) = (L.map (·.1)).map plV := by unfold amap; rw [List.map_map, List.map_map]; rfl
 rw [e] at h
 exact List.Pairwise.of_map plV (fun a b hab e => hab (by rw [e])) h
def comV (c : Com) : Value := .agg #[.bool c.is, .int .i64 c.sym, u64 c.fst, .bool c.emp]
noncomputable def cmap (G : GD) (L : List It) : List (Value × Value) := L.map fun x => (itV x, comV (comX G x))
noncomputable def spItems (B bS bA bC : Nat) (G : GD) (gc : List Value) (LA : List (Pl × Nat)) (LC : List It) (qv : Value) (Q : List Pl) (rest : List Item) : List Item :=
 blkI bS (.cells (gc ++ [.map (some bA), .map (some bC), qv]).toArray 156 (0, 0)) :: mapI 158 bA (amap LA) :: mapI 60 bC (cmap G LC) :: queI B 3 qv Q.length (qcells Q) :: rest
end Go.Proofs.YticmnfmijdgmbaaGreatDoor

/- The document's example: the mathematics; the example's grammar, laid. -/
namespace Go.Proofs.X14
open Go.Proofs.YticmnfmijdgmbaaGreatDoor (GD PD validB)
set_option linter.unusedVariables false
theorem IsClose.of {G : GD} {l c : List It} (h1 : Rise c) (h2 : ∀ x ∈ c, InC G l x) (h3 : ∀ x ∈ l, thereX G x = true → x ∈ c) (h4 : ∀ x ∈ c, ∀ s, behX G x = some s → s < 0 → ∀ p, p < G.prods.length → sortX G p = -1 - s → ((p : Int), 0) ∈ c) : IsClose G l c :=
 ⟨h1, fun x => ⟨h2 x, fun hx => by
  induction hx with
  | base x hx ht => exact h3 x hx ht
  | more x s p hx hb hs hp he ih => exact h4 x ih s hb hs p hp he⟩⟩
def exG : GD := ⟨[⟨#[97]⟩], [], [⟨#[83]⟩], [⟨⟨#[112]⟩, 0, [0], 0⟩], 0⟩
theorem ex_beh0 : behX exG (-1, 0) = some (-1) := by decide
theorem ex_beh1 : behX exG (0, 0) = some 0 := by decide
theorem ex_c0 : closeX exG [(-1, 0)] = [(-1, 0), (0, 0)] := by
 refine (closeX_eq (IsClose.of ?_ ?_ ?_ ?_)).symm
 ·unfold Rise
  refine List.pairwise_cons.2 ⟨fun x hx => ?_, List.pairwise_singleton _ _⟩
  obtain rfl : x = (0, 0) := by simpa using hx
  exact .inl (by decide)
 ·intro x hx
  have h0 : InC exG [(-1, 0)] (-1, 0) := .base _ (by simp) (by decide)
  rcases List.mem_cons.1 hx with e | e
  ·rw [e]; exact h0
  ·obtain rfl : x = (0, 0) := by simpa using e
   exact .more _ (-1) 0 h0 ex_beh0 (by decide) (by decide) (by decide)
 ·intro x hx _
  obtain rfl : x = (-1, 0) := by simpa using hx
  simp
 ·intro x hx s hb hs p hp he
  obtain rfl : p = 0 := by have : p < 1 := hp; omega
  simp
theorem ex_c1 : closeX exG [(0, 1)] = [(0, 1)] := by
 refine (closeX_eq (IsClose.of (List.pairwise_singleton _ _) (fun x hx => .base x hx ?_) (fun x hx _ => hx) fun x hx s hb hs p hp he => ?_)).symm
 ·obtain rfl : x = (0, 1) := by simpa using hx
  decide
 ·obtain rfl : x = (0, 1) := by simpa using hx
  rw [show behX exG (0, 1) = none from by decide] at hb
  cases hb
theorem ex_c2 : closeX exG [(-1, 1)] = [(-1, 1)] := by
 refine (closeX_eq (IsClose.of (List.pairwise_singleton _ _) (fun x hx => .base x hx ?_) (fun x hx _ => hx) fun x hx s hb hs p hp he => ?_)).symm
 ·obtain rfl : x = (-1, 1) := by simpa using hx
  decide
 ·obtain rfl : x = (-1, 1) := by simpa using hx
  rw [show behX exG (-1, 1) = none from by decide] at hb
  cases hb
theorem ex_i1 : (iterB exG 1).ker = [[(-1, 0)], [(0, 1)], [(-1, 1)]] ∧ (iterB exG 1).nx = [[1, 2]] := by
 obtain ⟨h1, h2⟩ := iter_succ exG 0
 have e : (iterB exG 0).ker.getD 0 [] = [(-1, 0)] := rfl
 rw [e, ex_c0] at h1 h2
 exact ⟨h1.trans (by decide), h2.trans (by decide)⟩
theorem ex_i2 : (iterB exG 2).ker = [[(-1, 0)], [(0, 1)], [(-1, 1)]] ∧ (iterB exG 2).nx = [[1, 2], [-1, -1]] := by
 obtain ⟨h1, h2⟩ := iter_succ exG 1
 have e : (iterB exG 1).ker.getD 1 [] = [(0, 1)] := by rw [ex_i1.1]; rfl
 rw [e, ex_c1, ex_i1.1] at h1 h2
 rw [ex_i1.2] at h2
 exact ⟨h1.trans (by decide), h2.trans (by decide)⟩
theorem ex_i3 : (iterB exG 3).ker = [[(-1, 0)], [(0, 1)], [(-1, 1)]] ∧ (iterB exG 3).nx = [[1, 2], [-1, -1], [-1, -1]] := by
 obtain ⟨h1, h2⟩ := iter_succ exG 2
 have e : (iterB exG 2).ker.getD 2 [] = [(-1, 1)] := by rw [ex_i2.1]; rfl
 rw [e, ex_c2, ex_i2.1] at h1 h2
 rw [ex_i2.2] at h2
 exact ⟨h1.trans (by decide), h2.trans (by decide)⟩
theorem ex_ok : BuiltOk exG 3 := by
 refine ⟨⟨fun m hm => ?_, fun m hm => ?_⟩, by rw [ex_i3.1]; decide⟩
 ·have : m = 0 ∨ m = 1 ∨ m = 2 := by omega
  rcases this with rfl | rfl | rfl
  ·show 0 < 1; omega
  ·rw [ex_i1.1]; decide
  ·rw [ex_i2.1]; decide
 ·have : m = 0 ∨ m = 1 ∨ m = 2 := by omega
  rcases this with rfl | rfl | rfl
  ·rw [ex_i1.1]; decide
  ·rw [ex_i2.1]; decide
  ·rw [ex_i3.1]; decide
theorem ex_valid : validB exG = true := by decide
end Go.Proofs.X14
namespace Go.Proofs.YticmnfmijdgmbaaGreatDoor
open Go Go.RowKit Go.Lib
open X14 (It exG)
set_option linter.unusedVariables false
set_option linter.unusedSimpArgs false
theorem ex_build {w w' : World} {e : Ending} (h : BuildP exG w e w') : Below w.heap.size w w' ∧ ∃ av, e = .returned (.tuple #[av, .int .i64 0]) ∧ AutAt w' av [[(-1, 0)], [(0, 1)], [(-1, 1)]] [[1, 2], [-1, -1], [-1, -1]] := by
 obtain ⟨hb, h | ⟨_, n, h | ⟨h, av, e1, h2⟩⟩⟩ := h
 ·rw [X14.ex_valid] at h
  cases h.1
 ·exact (X14.Built.not X14.ex_ok h.1).elim
 ·obtain rfl := X14.Built.one h X14.ex_ok
  rw [X14.ex_i3.1, X14.ex_i3.2] at h2
  exact ⟨hb, av, e1, h2⟩
end Go.Proofs.YticmnfmijdgmbaaGreatDoor
