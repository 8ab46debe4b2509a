/- An automaton that is handed in, as it lies in memory. -/
import Derived.Deep.Slices
import Derived.OpenShut
import Derived.ChangeSame
import Derived.Lib.SmallJoins
import Derived.Test.YtochckefnjobhaaDoorKq
namespace Go.Proofs.YtochckefnjobhaaDoor
open Go Go.RowKit Go.Lib Go.WideShapes Go.ChangeShapes Go.Deep
open X5 (Aut)
set_option linter.unusedVariables false
set_option linter.unusedSimpArgs false

section
variable {H : Type} {enc : TypeId × Value → H} {P : Program} {w : World} {base : Nat} {spare : Nat → Bool} {held : Bool}

theorem cell_plain {a : Addr} {v : Value} (h : w.cell? (a.add 0) = some v) : ∃ b off, a = ⟨b, off, none⟩ := by
  obtain ⟨b, off, spot⟩ := a
  have hspot : spot = none := by simpa [Addr.add] using World.cell?_spot h
  subst hspot
  exact ⟨b, off, rfl⟩

/-- A row of things of c cells each. -/
theorem open_block {t e : TypeId} {c fuel : Nat} {v : Value} {x : DataW H × List MemPlace} (ht : P.underlying t = some (.slice e)) (hc : P.cellsOf e = c) (h0 : 0 < c) (h : DataW.trod enc P w base spare held fuel t [v] = some x) :
    ∃ (a : Option Addr) (len cap : Nat) (V : Nat → Nat → Value), v = .slice a len cap ∧ len ≤ cap ∧ cap ≤ maxLen ∧ (0 < len → ∃ b off, a = some ⟨b, off, none⟩ ∧ ∀ i, i < len → ∀ j, j < c → w.cell? ⟨b, off + i * c + j, none⟩ = some (V i j)) ∧
      (∀ i, i < len → ∃ n y, DataW.trod enc P w base spare held n e ((List.range c).map (V i)) = some y) ∧ (a = none → cap = 0) := by
  rcases open_slice ht h with ⟨hcs, _⟩ | ⟨a, len, cap, m, n, D, Pl, hcs, hb, hl, hm, hmm, _, hx⟩
  · simp only [List.cons.injEq, and_true] at hcs
    exact ⟨none, 0, 0, fun _ _ => undef, hcs, Nat.le_refl _, Nat.zero_le _, fun h => absurd h (Nat.lt_irrefl 0), fun i hi => absurd hi (Nat.not_lt_zero i), fun _ => rfl⟩
  · simp only [List.cons.injEq, and_true] at hcs
    have hlm : len ≤ m := by rw [hmm]; split <;> omega
    obtain ⟨V, hV⟩ := choose_lt (α := Nat → Value) (n := len) (p := fun i f => (∀ j, j < c → w.cell? ((a.add (i * c)).add j) = some (f j)) ∧ DataW.trod enc P w base spare held n e ((List.range c).map f) = some (D i, Pl i)) (fun i hi => by
      obtain ⟨cs', h1, h2⟩ := hx i (by omega)
      rw [hc] at h1
      obtain ⟨_, hlen, hcell⟩ := World.cells?_some h1
      refine ⟨fun j => cs'.getD j undef, fun j hj => ?_, ?_⟩
      · show _ = some (cs'.getD j undef)
        rw [hcell j hj, List.getD_eq_getElem?_getD, List.getElem?_eq_getElem (by omega)]; rfl
      · have : (List.range c).map (fun j => cs'.getD j undef) = cs' := by
          refine List.ext_getElem (by simp [hlen]) fun j h3 h4 => ?_
          simp [List.getD_eq_getElem?_getD, List.getElem?_eq_getElem h4]
        rw [this]; exact h2)
    refine ⟨some a, len, cap, V, hcs, hl, hm, fun hlt => ?_, fun i hi => ⟨n, _, (hV i hi).2⟩, fun h => (by cases h)⟩
    have := (hV 0 hlt).1 0 h0
    rw [add_add, Nat.zero_mul, Nat.add_zero] at this
    obtain ⟨b, off, rfl⟩ := cell_plain this
    refine ⟨b, off, rfl, fun i hi j hj => ?_⟩
    have := (hV i hi).1 j hj
    rw [add_add, Lib.add_plain, ← Nat.add_assoc] at this
    exact this
end


section
variable {H : Type} {enc : TypeId × Value → H} {w : World} {base : Nat} {spare : Nat → Bool} {held : Bool}
theorem u64_nat' {n : Int} (h : (Lit.int .u64 n).wf = true) : ∃ a : Nat, n = (a : Int) ∧ a < 18446744073709551616 := by
  have : 0 ≤ n ∧ n ≤ 18446744073709551615 := by simpa [Lit.wf, IntKind.min, IntKind.max, IntKind.signed, IntKind.bits] using h
  exact ⟨n.toNat, by omega, by omega⟩
/-- A row of numbers. -/
theorem open_row {fuel : Nat} {v : Value} {x : DataW H × List MemPlace} (h : DataW.trod enc Tryd.prog w base spare held fuel 56 [v] = some x) : ∃ l : List Int, RowAtI w v l ∧ l.length ≤ maxLen := by
  obtain ⟨a, len, cap, V, rfl, hl, hm, hat, hel, _⟩ := open_block Tryd.underlying56 (by kernel_rfl : Tryd.prog.cellsOf 3 = 1) (by omega) h
  obtain ⟨f, hf⟩ := choose_lt (α := Int) (n := len) (p := fun i z => V i 0 = .int .i64 z) (fun i hi => by
    obtain ⟨n, y, hy⟩ := hel i hi
    obtain ⟨z, hz, _, _⟩ := DataW.trod_int Tryd.underlying3 hy
    simp only [show (List.range 1).map (V i) = [V i 0] from rfl, List.cons.injEq, and_true] at hz
    exact ⟨z, hz⟩)
  have hlen : ((List.range len).map f).length = len := by simp
  refine ⟨(List.range len).map f, ⟨a, cap, by rw [hlen], fun j hj => ?_⟩, by rw [hlen]; omega⟩
  rw [hlen] at hj
  obtain ⟨b, off, rfl, hc⟩ := hat (by omega)
  have := hc j hj 0 (by omega)
  rw [Nat.mul_one, Nat.add_zero, hf j hj] at this
  exact ⟨b, off, rfl, block_lt this, by rw [this]; simp⟩
set_option maxRecDepth 100000 in
set_option maxHeartbeats 1000000 in
theorem open_dfa {r : Reach} {b0 : Nat} {v : Value} {d : DataW H} {ps : List MemPlace} (hval : Value.okWide Tryd.prog w r b0 30 v) (h : DataW.Trod enc Tryd.prog w base spare held 30 v d ps) :
    ∃ D nv tv, v = .agg (dval D nv tv) ∧ DAt w nv tv D := by
  obtain ⟨cs, rfl, hsz⟩ := okWide_struct Tryd.underlying30 hval
  obtain ⟨l⟩ := cs
  have hC : Tryd.prog.cellsOf 30 = 258 := by kernel_rfl
  have hl : l.length = 258 := hsz.trans hC
  obtain ⟨fuel, hf⟩ := h
  obtain ⟨xs, n, _, hx, _, hlen, hg⟩ := DataW.trod_struct Tryd.underlying30 hf
  match xs, hlen with
  | [y0, y1, y2], _ =>
    have k0 : DataW.trod enc Tryd.prog w base spare held n 26 ((l.drop 0).take (Tryd.prog.cellsOf 26)) = some y0 := hg 0 _ rfl
    have k1 : DataW.trod enc Tryd.prog w base spare held n 27 ((l.drop 256).take (Tryd.prog.cellsOf 27)) = some y1 := hg 1 _ rfl
    have k2 : DataW.trod enc Tryd.prog w base spare held n 28 ((l.drop 257).take (Tryd.prog.cellsOf 28)) = some y2 := hg 2 _ rfl
    rw [show Tryd.prog.cellsOf 26 = 256 from by kernel_rfl] at k0
    rw [show Tryd.prog.cellsOf 27 = 1 from by kernel_rfl] at k1
    rw [show Tryd.prog.cellsOf 28 = 1 from by kernel_rfl] at k2
    have e1 : (l.drop 256).take 1 = [l[256]] := by rw [List.drop_eq_getElem_cons (by omega)]; rfl
    have e2 : (l.drop 257).take 1 = [l[257]] := by rw [List.drop_eq_getElem_cons (by omega)]; rfl
    rw [e1] at k1
    rw [e2] at k2
    obtain ⟨cx, cn, _, _, _, clen, cg⟩ := DataW.trod_array Tryd.underlying26 k0
    obtain ⟨cf, hcf⟩ := choose_lt (α := Int) (n := 256) (p := fun i z => l[i]? = some (.int .i64 z)) (fun i hi => by
      have g := cg i hi
      rw [show Tryd.prog.cellsOf 3 = 1 from by kernel_rfl, Nat.mul_one, List.drop_zero, List.getElem?_eq_getElem (by omega)] at g
      have e : ((l.take 256).drop i).take 1 = [l[i]'(by omega)] := by
        rw [List.drop_eq_getElem_cons (by simp; omega), List.getElem_take]; rfl
      rw [e] at g
      obtain ⟨z, hz, _, _⟩ := DataW.trod_int Tryd.underlying3 g
      simp only [List.cons.injEq, and_true] at hz
      exact ⟨z, by rw [List.getElem?_eq_getElem (by omega), hz]⟩)
    obtain ⟨na, nl, nc, NV, hnv, hnl, hnm, hna, hne, _⟩ := open_block Tryd.underlying27 (by kernel_rfl : Tryd.prog.cellsOf 56 = 1) (by omega) k1
    obtain ⟨ta, tl, tc, TV, htv, htl, htm, hta, hte, _⟩ := open_block Tryd.underlying28 (by kernel_rfl : Tryd.prog.cellsOf 43 = 1) (by omega) k2
    obtain ⟨nf, hnf⟩ := choose_lt (α := List Int) (n := nl) (p := fun i q => RowAtI w (NV i 0) q ∧ q.length ≤ maxLen) (fun i hi => by
      obtain ⟨n, y, hy⟩ := hne i hi
      exact open_row hy)
    obtain ⟨tf, htf⟩ := choose_lt (α := Nat) (n := tl) (p := fun i z => TV i 0 = .int .u64 (z : Int) ∧ z < 18446744073709551616) (fun i hi => by
      obtain ⟨n, y, hy⟩ := hte i hi
      obtain ⟨z, hz, _, hw⟩ := DataW.trod_int Tryd.underlying43 hy
      simp only [show (List.range 1).map (TV i) = [TV i 0] from rfl, List.cons.injEq, and_true] at hz
      obtain ⟨a, rfl, ha⟩ := u64_nat' hw
      exact ⟨a, hz, ha⟩)
    refine ⟨⟨(List.range 256).map cf, (List.range nl).map nf, (List.range tl).map tf⟩, l[256], l[257], ?_, ?_⟩
    · congr 1
      unfold dval ivs
      have : l = (((List.range 256).map cf).map (Value.int .i64)) ++ [l[256], l[257]] := by
        refine List.ext_getElem? fun i => ?_
        by_cases hi : i < 256
        · rw [List.getElem?_append_left (by simp; exact hi), hcf i hi]
          simp [hi]
        · rw [List.getElem?_append_right (by simp; omega)]
          simp only [List.length_map, List.length_range]
          by_cases h6 : i = 256
          · subst h6; rw [List.getElem?_eq_getElem (by omega)]; rfl
          · by_cases h7 : i = 257
            · subst h7; rw [List.getElem?_eq_getElem (by omega)]; rfl
            · rw [List.getElem?_eq_none (by omega), List.getElem?_eq_none (by simp; omega)]
      apply Array.ext'
      simp only [Array.toList_append]
      exact this
    · refine ⟨by simp, ⟨na, nc, by rw [hnv]; simp, fun i hi => ?_⟩, ⟨ta, tc, by rw [htv]; simp, fun i hi => ?_⟩, ⟨by simp; omega, by simp; omega⟩, fun q hq => ?_⟩
      · have hi' : i < nl := by simpa using hi
        obtain ⟨b, off, rfl, hc⟩ := hna (by omega)
        have := hc i hi' 0 (by omega)
        rw [Nat.mul_one, Nat.add_zero] at this
        refine ⟨b, off, NV i 0, rfl, block_lt this, this, ?_⟩
        have e : ((List.range nl).map nf)[i]'(by simpa using hi') = nf i := by simp
        show RowAtI w (NV i 0) (((List.range nl).map nf)[i]'(by simpa using hi'))
        rw [e]
        exact (hnf i hi').1
      · have hi' : i < tl := by simpa using hi
        obtain ⟨b, off, rfl, hc⟩ := hta (by omega)
        have := hc i hi' 0 (by omega)
        rw [Nat.mul_one, Nat.add_zero, (htf i hi').1] at this
        have e : ((List.range tl).map tf)[i]'(by simpa using hi') = tf i := by simp
        refine ⟨b, off, rfl, block_lt this, ?_, ?_⟩
        · show _ = some (Value.int .u64 ((((List.range tl).map tf)[i]'(by simpa using hi') : Nat) : Int))
          rw [e]; exact this
        · show ((List.range tl).map tf)[i]'(by simpa using hi') < _
          rw [e]; exact (htf i hi').2
      · obtain ⟨i, hi, rfl⟩ := List.mem_map.1 hq
        exact (hnf i (by simpa using hi)).2
end
end Go.Proofs.YtochckefnjobhaaDoor

/- What the laws of mini call, by automata that lie. -/
namespace Go.Proofs.X6
open Go Go.RowKit Go.Lib
open X5 (Aut rowOf)
set_option linter.unusedVariables false
set_option linter.unusedSimpArgs false
/-- It is the least one of D. -/
def IsL (D M : Aut) : Prop := ∃ Bk st, Blk (rowOf D 0).length D Bk ∧ IsJ D Bk M st
theorem Ok.pos {D : Aut} {K : Nat} (h : Ok D K) : 0 < D.next.length := List.length_pos_iff.2 h.some_
theorem IsL.ok {D M : Aut} (hv : Vd D) (h : IsL D M) : Ok M (rowOf D 0).length := by
  obtain ⟨Bk, st, hb, hj⟩ := h
  exact hj.ok hv.ok hb
theorem IsL.row {D M : Aut} (hv : Vd D) (h : IsL D M) : (rowOf M 0).length = (rowOf D 0).length := (h.ok hv).rows 0 (h.ok hv).pos
theorem IsL.cls {D M : Aut} (h : IsL D M) : M.cls = D.cls := by
  obtain ⟨Bk, st, hb, hj⟩ := h
  exact hj.1
theorem IsL.few {D M : Aut} (hv : Vd D) (h : IsL D M) : M.next.length ≤ D.next.length := by
  obtain ⟨Bk, st, hb, hj⟩ := h
  exact hj.few hv.ok hb
/-- Not many states, not many classes. -/
def Few (D : Aut) : Prop := D.next.length ≤ 1000000 ∧ D.tags.length ≤ 1000000 ∧ (rowOf D 0).length ≤ 1000000 ∧ D.next.length * (rowOf D 0).length ≤ 1000000
theorem Lit.few {D : Aut} (h : Lit D) : Few D := by
  have h0 : (rowOf D 0).length ≤ 20 := by
    unfold rowOf
    rw [List.getD_eq_getElem?_getD]
    cases hx : D.next[0]? with
    | none => simp
    | some r => exact h.2.2 r (List.mem_of_getElem? hx)
  have h1 := h.1
  have h2 := h.2.1
  refine ⟨by omega, by omega, by omega, ?_⟩
  have : D.next.length * (rowOf D 0).length ≤ 30 * 20 := Nat.mul_le_mul (by omega) h0
  omega
theorem IsL.again {D M N : Aut} (hv : Vd D) (h : IsL D M) (g : IsL M N) : N = M := by
  obtain ⟨Bk, st, hb, hj⟩ := h
  obtain ⟨Ck, su, hc, hk⟩ := g
  have hr := IsL.row hv ⟨Bk, st, hb, hj⟩
  rw [hr] at hc
  exact hj.again hv.ok hb hc hk
theorem Vd.cl {D : Aut} (hv : Vd D) (hl : D.cls.length = 256) : ∀ b, b < 256 → 0 ≤ D.cls.getD b 0 ∧ D.cls.getD b 0 < ((rowOf D 0).length : Int) := fun b hb =>
  hv.cls _ (X6.getD_mem (by omega))
theorem IsL.run {D M : Aut} (hv : Vd D) (hl : D.cls.length = 256) (h : IsL D M) (s : List UInt8) : X5.runX M s = X5.runX D s := by
  obtain ⟨Bk, st, hb, hj⟩ := h
  exact hj.run hv.ok hb (hv.cl hl) s
theorem IsL.one {D E M N : Aut} (hv : Vd D) (hE : Ok E (rowOf D 0).length) (h0 : Eqv (rowOf D 0).length D 0 E 0) (hc : D.cls = E.cls) (h : IsL D M) (g : IsL E N) : M = N := by
  obtain ⟨Bk, st, hb, hj⟩ := h
  obtain ⟨Ck, su, hc', hk⟩ := g
  rw [hE.rows 0 hE.pos] at hc'
  exact IsJ.one hv.ok hE hb hc' h0 hc hj hk
end Go.Proofs.X6
namespace Go.Proofs.YtochckefnjobhaaDoor
open Go Go.RowKit Go.Lib
open X5 (Aut)
set_option linter.unusedVariables false
set_option linter.unusedSimpArgs false
/-- An automaton's value, as it lies. -/
def Lies (D : Aut) (dd : Array Value) (w : World) : Prop := ∃ nv tv, dd = dval D nv tv ∧ DAt w nv tv D
theorem Lies.below {D : Aut} {dd : Array Value} {w w' : World} (h : Lies D dd w) (hb : Below w.heap.size w w') : Lies D dd w' := by
  obtain ⟨nv, tv, e, h⟩ := h
  exact ⟨nv, tv, e, h.below hb⟩
theorem Lies.sz {D : Aut} {dd : Array Value} {w : World} (h : Lies D dd w) : dd.size = 258 ∧ dd.all (·.oneCell') = true ∧ (∃ o c, dd[256]? = some (.slice o D.next.length c)) ∧ D.cls.length = 256 := by
  obtain ⟨nv, tv, rfl, h⟩ := h
  obtain ⟨o, c, hc⟩ := rows_shape h.rows
  refine ⟨dval_size h, dval_one' h, ⟨o, c, ?_⟩, h.len⟩
  rw [dcell_next h.len, hc]
theorem little_at {D : Aut} {dd : Array Value} {w : World} (h : Lies D dd w) : Calls Tryd.prog 20 #[.agg dd] w fun e w' => ∃ b : Bool, e = .returned (.bool b) ∧ (b = true ↔ X6.Lit D) ∧ Below w.heap.size w w' := by
  obtain ⟨nv, tv, rfl, h⟩ := h
  exact little_any h
theorem valid_at {D : Aut} {dd : Array Value} {w : World} (h : Lies D dd w) (hf : X6.Few D) : Calls Tryd.prog 14 #[.agg dd] w fun e w' => ∃ b : Bool, e = .returned (.bool b) ∧ (b = true ↔ X6.Vd D) ∧ Below w.heap.size w w' := by
  obtain ⟨nv, tv, rfl, h⟩ := h
  exact valid2_any h hf.1 hf.2.1
theorem valid_yes {D : Aut} {dd : Array Value} {w : World} (h : Lies D dd w) (hf : X6.Few D) (hv : X6.Vd D) : Calls Tryd.prog 14 #[.agg dd] w fun e w' => e = .returned (.bool true) ∧ Below w.heap.size w w' := by
  refine (valid_at h hf).mono fun e w' hq => ?_
  obtain ⟨b, rfl, hb, hbl⟩ := hq
  rw [hb.2 hv]
  exact ⟨rfl, hbl⟩
theorem valid_no {D : Aut} {dd : Array Value} {w : World} (h : Lies D dd w) (hf : X6.Few D) (hv : ¬ X6.Vd D) : Calls Tryd.prog 14 #[.agg dd] w fun e w' => e = .returned (.bool false) ∧ Below w.heap.size w w' := by
  refine (valid_at h hf).mono fun e w' hq => ?_
  obtain ⟨b, rfl, hb, hbl⟩ := hq
  cases b with
  | true => exact absurd (hb.1 rfl) hv
  | false => exact ⟨rfl, hbl⟩
theorem least_yes {D : Aut} {dd : Array Value} {w : World} (h : Lies D dd w) (hf : X6.Few D) (hv : X6.Vd D) : Calls Tryd.prog 21 #[.agg dd] w fun e w' => ∃ M dm, e = .returned (.tuple #[.agg dm, .int .i64 0]) ∧ Lies M dm w' ∧ X6.IsL D M ∧ Below w.heap.size w w' := by
  obtain ⟨nv, tv, rfl, h⟩ := h
  refine (least_any h hf.1 hf.2.1 hf.2.2.1 hf.2.2.2).mono fun e w' hq => ?_
  rcases hq with ⟨hn, _⟩ | ⟨_, Bk, M, st, nv', tv', rfl, hb, hj, hd, hbl⟩
  · exact absurd hv hn
  exact ⟨M, _, rfl, ⟨nv', tv', rfl, hd.at_⟩, ⟨Bk, st, hb, hj⟩, hbl⟩
theorem same_at {D : Aut} {dd de : Array Value} {w : World} (h : Lies D dd w) (g : Lies D de w) : Calls Tryd.prog 22 #[.agg dd, .agg de] w fun e w' => e = .returned (.bool true) ∧ Below w.heap.size w w' := by
  obtain ⟨nv, tv, rfl, h⟩ := h
  obtain ⟨nu, tu, rfl, g⟩ := g
  refine (same_any h g).mono fun e w' hq => ?_
  rw [sameX_eq.2 rfl] at hq
  exact hq
section
variable {o : Oper} {a : Act} {W w : World} {C : World → Prop}
theorem exec_load26 (p : Operand) (hop : o.op = .load 26 p) (g : Nat) (hp : a.eval p = .pointer (some ⟨g, 0, none⟩)) (cv : Array Value) (nv tv : Value) (dc : Array Value) (hd : cv ++ #[nv, tv] = dc) (hb : w.heap[g]? = some (.cells dc 30 (0, 0))) (h1 : cv.size = 256) :
    (execOp a.eval o).run Tryd.prog w = .ok (.value (.agg cv)) w := by
  subst hd
  have hl : (loadCells ⟨g, 0, none⟩ cv.toList.length).run Tryd.prog w = .ok cv.toList.toArray w :=
    run_loadCells_list (P := Tryd.prog) w ⟨g, 0, none⟩ cv.toList (fun j v hv => by
      have hadd : (⟨g, 0, none⟩ : Addr).add j = ⟨g, j, none⟩ := by unfold Addr.add; split <;> simp_all
      have hj : j < cv.size := by
        have := (List.getElem?_eq_some_iff.1 hv).1
        rwa [Array.length_toList] at this
      rw [hadd, cell_of_row w g j _ 30 (0, 0) hb, Array.getElem?_append_left hj, ← Array.getElem?_toList]
      exact hv)
  rw [Array.length_toList, h1] at hl
  have hag : (isAgg 26).run Tryd.prog w = .ok true w := by kernel_rfl
  have hsz : (sizeOf 26).run Tryd.prog w = .ok 256 w := by kernel_rfl
  have hrun : (loadVar 26 ⟨g, 0, none⟩).run Tryd.prog w = .ok (.agg cv) w := by
    simp [loadVar, Sem.run_bind, hag, hsz, hl, Result.andThen]
  simp only [execOp, hop, hp, Instr.loadAt, Instr.sureAddr, Sem.run_bind, Sem.run_pure, Result.andThen_ok, hrun]
end
end Go.Proofs.YtochckefnjobhaaDoor

/- MiniRuns: the walk. -/
namespace Go.Proofs.YtochckefnjobhaaDoor
open Go Go.RowKit Go.Lib
open X5 (Aut)
set_option linter.unusedVariables false
set_option linter.unusedSimpArgs false

theorem boxed (w : World) (dd : Array Value) : ∃ w', w.alloc (.cells dd 30) = w' ∧ Bxx w.heap.size dd w' ∧ Below w.heap.size w w' :=
  ⟨_, rfl, new_block _ _, (Below.refl _ _).alloc (Nat.le_refl _) _⟩
end Go.Proofs.YtochckefnjobhaaDoor
