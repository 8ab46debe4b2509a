/- slices.Backward at regexes: what it hands to a loop's body, from the last one to the first. -/
import Derived.RangeFuncNested
import Derived.RangeFuncBound
import Derived.RangeFuncLeaves
import Derived.Shelf.Abstract
import Derived.Shelf.RegionOpen
import Derived.WalkKit
import Derived.OwnWalkIn
import Derived.TacticsInMore
import Derived.LoopNIn
import Derived.LoopIn
import Derived.WalkSmall
import Derived.Lib.Hide
import Derived.Outline
import Derived.Test.YtochckefnjobhaaGreatDoorSa
import Derived.Test.YtochckefnjobhaaGreatDoorXs
import Derived.Test.YtochckefnjobhaaGreatDoorHb
import Derived.Deep.LoopGhost
import Derived.Laws.AppendOwnNone
set_option linter.unusedVariables false
set_option linter.unusedSimpArgs false
namespace Go.Proofs.YtochckefnjobhaaGreatDoor
open Go Go.RowKit Go.Shelf Go.Lib
attribute [local go_sem] Oper.semAt_some
def backTo (n k : Nat) : List Nat := ((List.range n).drop k).reverse
theorem backTo_all (n : Nat) : backTo n n = [] := by unfold backTo; rw [List.drop_eq_nil_of_le (by simp)]; rfl
theorem backTo_next {n k : Nat} (h : k < n) : backTo n (k + 1) ++ [k] = backTo n k := by
 unfold backTo
 rw [List.drop_eq_getElem_cons (i := k) (by simpa using h), List.reverse_cons, List.getElem_range]
theorem backTo_len (n k : Nat) : (backTo n k).length = n - k := by unfold backTo; simp
set_option maxRecDepth 100000 in
set_option maxHeartbeats 1000000 in
theorem back_in (F : Fence) (n : Nat) (h38 : F.fn 107) (hro : F.round = none) (a : Option Addr) (m c : Nat) (w : World) :
  CallsIn F n Tryz.prog 107 #[.slice a m c] w fun e w' => e = .returned (.func (.func 114) #[] #[.pointer (some ⟨w.heap.size, 0, none⟩)]) ∧ w' = w.alloc (.cells #[.slice a m c] 44) := by
 refine callsIn_of_wp Tryz.func107 rfl h38 ?_ hro
 simp only [Tryz.ntmps107, List.size_toArray, List.length_cons, List.length_nil, Nat.reduceAdd, Nat.reduceSub, Array.replicate_succ, Array.replicate_zero, List.push_toArray, List.append_toArray, List.nil_append, List.cons_append]
 gi_wp2
 go_ret
 exact ⟨rfl, rfl⟩
def KpB (b1 g : Nat) (W W' : World) : Prop := W'.heap[b1]? = W.heap[b1]? ∧ W'.heap[g]? = W.heap[g]?
set_option maxRecDepth 100000 in
set_option maxHeartbeats 2000000 in
theorem back_seq (F : Fence) (n : Nat) (h44 : F.fn 114) (hro : F.round = none) (hn : 1 ≤ n) (b1 g N cap : Nat) (K : Nat → Value) (w : World) (hb1 : w.heap[b1]? = some (.cells #[.slice (some ⟨g, 0, none⟩) N cap] 44 (0, 0))) (hg : g < w.heap.size) (hN : N ≤ 1000000) (hc : N ≤ cap)
  (hK : ∀ k, k < N → ∃ c0 c1 c2 c3 c4 c5, K k = .agg #[c0, c1, c2, c3, c4, c5] ∧ w.cell? ⟨g, k * 6, none⟩ = some c0 ∧ w.cell? ⟨g, k * 6 + 1, none⟩ = some c1 ∧ w.cell? ⟨g, k * 6 + 2, none⟩ = some c2 ∧ w.cell? ⟨g, k * 6 + 3, none⟩ = some c3 ∧ w.cell? ⟨g, k * 6 + 4, none⟩ = some c4 ∧ w.cell? ⟨g, k * 6 + 5, none⟩ = some c5) :
  SeqStopsK F n Tryz.prog 114 #[.pointer (some ⟨b1, 0, none⟩)] (fun k : Fin N => #[Value.int .i64 (k.val : Int), K k.val]) (KpB b1 g) (fun xs => xs.map (·.val) = backTo N 0) (fun _ => True) N w := fun l J Jx W hW hJ hJx hY h0 => by
 have hb1l := (Array.getElem?_eq_some_iff.1 hb1).1
 have HK := hid hK
 have HY := hid hY
 have HB := hid hb1
 have hW1 := hW.block b1 hb1l
 have hW2 := hW.block g hg
 clear hK hY hb1 hW hJ hJx
 refine callsIn_of_wp Tryz.func114 rfl h44 ?_ hro
 simp only [Tryz.ntmps114, List.size_toArray, List.length_cons, List.length_nil, Nat.reduceAdd, Nat.reduceSub, Array.replicate_succ, Array.replicate_zero, List.push_toArray, List.append_toArray, List.nil_append, List.cons_append]
 have c0 : W.cell? ⟨b1, 0, none⟩ = some (.slice (some ⟨g, 0, none⟩) N cap) := by rw [Lib.cell_of_heap (hW1.trans HB.out)]; rfl
 have HW1 := hid hW1
 have HW2 := hid hW2
 clear hW1 hW2
 gi_wp2
 clear c0
 gi_loopw [3] (fun i wr => ∃ k : Nat, k ≤ N ∧ i = .int .i64 ((k : Int) - 1) ∧ wr.heap[b1]? = w.heap[b1]? ∧ wr.heap[g]? = w.heap[g]? ∧ ∃ xs : List (Fin N), xs.map (·.val) = backTo N k ∧ J xs wr)
  (fun i _ => (intOf i + 1).toNat)
 case atStart =>
  exact ⟨N, Nat.le_refl _, rfl, HW1.out, HW2.out, [], (backTo_all N).symm, h0⟩
 case round =>
  obtain ⟨k, hk, rfl, h1, h2, xs, hxs, hj⟩ := hrel
  have c0 : wr.cell? ⟨b1, 0, none⟩ = some (.slice (some ⟨g, 0, none⟩) N cap) := by rw [Lib.cell_of_heap (h1.trans HB.out)]; rfl
  have H1 := hid h1
  have H2 := hid h2
  have HJ := hid hj
  have HXS := hid hxs
  clear h1 h2 hj hxs
  cases k with
  | zero =>
   have t1 : ¬ (0 : Int) ≤ ((0 : Nat) : Int) - 1 := by decide
   gi_wp2
   go_end0
   first
     | exact ⟨⟨_, rfl⟩, .inl ⟨_, HXS.out, HJ.out⟩⟩
  | succ k =>
   have ek : (((k + 1 : Nat) : Int) - 1) = (k : Int) := by omega
   have t1 : (0 : Int) ≤ (k : Int) := by omega
   have t2 : (k : Int) < (N : Int) := by omega
   obtain ⟨d0, d1, d2, d3, d4, d5, hKk, e0, e1, e2, e3, e4, e5⟩ := HK.out k (by omega)
   replace e0 := (World.cell?_of_block H2.out).trans e0
   replace e1 := (World.cell?_of_block H2.out).trans e1
   replace e2 := (World.cell?_of_block H2.out).trans e2
   replace e3 := (World.cell?_of_block H2.out).trans e3
   replace e4 := (World.cell?_of_block H2.out).trans e4
   replace e5 := (World.cell?_of_block H2.out).trans e5
   obtain ⟨fn, tmps, assign, body, hy, hR⟩ := HY.out xs ⟨k, by omega⟩ wr HJ.out (by have := congrArg List.length HXS.out; rw [List.length_map, backTo_len] at this; omega)
   have hX2 : (xs ++ [⟨k, by omega⟩] : List (Fin N)).map (·.val) = backTo N k := by rw [List.map_append, HXS.out]; exact backTo_next (by omega)
   have HX2 := hid hX2
   replace hy : (Instr.yield l #[Value.int .i64 (k : Int), K k]).run Tryz.prog wr = _ := hy
   rw [hKk] at hy
   have HR := hid hR
   clear hR hKk hX2
   simp only [ek]
   gi_wp2
   refine HR.out.mono ?_
   rintro e W3 (⟨rfl, hJ3, hk3⟩ | ⟨rfl, hJx3⟩)
   ·have HJ3 := hid hJ3
    have HK3 := hid hk3
    clear hJ3 hk3
    gi_wp2
    exact ⟨⟨k, by omega, rfl, HK3.out.1.trans H1.out, HK3.out.2.trans H2.out, _, HX2.out, HJ3.out⟩, by show (((k : Int) - 1) + 1).toNat < ((k : Int) + 1).toNat; omega⟩
   ·gi_wp2
    refine bodyPost_ret (results_none rfl _ _ _) rfl ?_
    exact ⟨⟨_, rfl⟩, .inr ⟨_, trivial, hJx3⟩⟩
end Go.Proofs.YtochckefnjobhaaGreatDoor
namespace Go.Proofs.YtochckefnjobhaaGreatDoor
open Go Go.RowKit Go.Lib
open X3 (RX Pl)
set_option linter.unusedVariables false
set_option linter.unusedSimpArgs false
theorem wp_append_own_at {P : Program} {w : World} {o : Oper} {a : Act} {K : Act → World → Prop} {Q : Exit → Act → World → Prop} (s x : Operand) (t : TypeId)
  (ho : o.op = .call { callee := .builtin .append, args := #[s, x], argTypes := #[t, t] })
  (base : Nat) (e : TypeId) (i : TypeInfo) (z : Value) (size bytes : Nat) (ht : P.underlying t = some (.slice e)) (hi : P.info? e = some i) (hz : i.zero = some z)
  (hsize : i.size = size) (hby : i.bytes = bytes) (hzs : z.cells.size = size) (hsz : 0 < size)
  (v : Value) (n : Nat) (xs : List Value) (hs : a.eval s = v) (hown : w.ownsRow base e size v n xs)
  (ad : Addr) (m c : Nat) (news : List Value) (hx : a.eval x = .slice (some ad) m c) (hl : news.length = m * size) (hnews : ∀ j u, news[j]? = some u → w.cell? (ad.add j) = some u) (h1 : ∀ u ∈ news, u.oneCell' = true)
  (h63 : n + m ≤ maxLen) (hbytes : (n + m) * bytes ≤ 140737488355328) (hbase : base ≤ w.heap.size)
  (h : ∀ v' w', w'.ownsRow base e size v' (n + m) (xs ++ news) → w.grownBy w' v.ownBlock → (v' = .slice none 0 0 ↔ v = .slice none 0 0 ∧ m = 0) → (v'.ownBlock = v.ownBlock ∨ v'.ownBlock = some w.heap.size) → K (a.put o.dst v') w') :
  o.wp P a w K Q := by
 obtain ⟨v', w', hr, h2, h3, h4, h5⟩ := run_append_own_at (P := P) w base t o.type e i z size bytes ht hi hz hsize hby hzs hsz v n xs hown ad m c news hl hnews h1 h63 hbytes hbase
 unfold Oper.wp execOp
 simp only [ho, resolve, invoke, builtin, Sem.run_bind, Sem.run_pure, Result.andThen_ok, List.map_toArray, List.map_cons, List.map_nil, hs, hx, hr]
 exact h v' w' h2 h3 h4 h5
def nodeOf : RX → Value
 | .bytes x y z u => nodeV 1 x y z u noKids
 | _ => nodeV 0 0 0 0 0 noKids
def bcs : RX → List Value
 | .bytes x y z u => [.int .i64 1, .int .u64 x, .int .u64 y, .int .u64 z, .int .u64 u, noKids]
 | _ => [.int .i64 0, .int .u64 0, .int .u64 0, .int .u64 0, .int .u64 0, noKids]
theorem bcs_len (b : RX) : (bcs b).length = 6 := by cases b <;> rfl
theorem bcs_shape (b : RX) : ∃ k x y z u : Int, bcs b = [.int .i64 k, .int .u64 x, .int .u64 y, .int .u64 z, .int .u64 u, noKids] ∧ nodeOf b = nodeV k x y z u noKids := by
 cases b <;> exact ⟨_, _, _, _, _, rfl, rfl⟩
def plc (t : Nat) (pl : Pl) (av : Value) : List Value := bcs pl.b ++ [.int .i64 pl.next, av, .int .u64 (t : Int)]
theorem plc_len (t : Nat) (pl : Pl) (av : Value) : (plc t pl av).length = 9 := by simp [plc, bcs_len]
def cellsP (T : Nat → Nat) : Nat → List Pl → List Value → List Value
 | i, pl :: P, av :: AS => plc (T i) pl av ++ cellsP T (i + 1) P AS
 | _, _, _ => []
theorem cellsP_app (T : Nat → Nat) : ∀ (i : Nat) (P : List Pl) (AS : List Value) (pl : Pl) (av : Value), AS.length = P.length → cellsP T i (P ++ [pl]) (AS ++ [av]) = cellsP T i P AS ++ plc (T (i + P.length)) pl av
 | i, [], [], pl, av, _ => by simp [cellsP]
 | i, p :: P, a :: AS, pl, av, h => by
  simp only [List.cons_append, cellsP]
  rw [cellsP_app T (i + 1) P AS pl av (by simpa using h), List.append_assoc, List.length_cons, Nat.add_right_comm i 1, Nat.add_assoc i P.length 1]
theorem cellsP_ati (T : Nat → Nat) : ∀ (i : Nat) (P : List Pl) (AS : List Value) (k : Nat) (pl : Pl) (av : Value), AS.length = P.length → P[k]? = some pl → AS[k]? = some av → ∀ j, j < 9 → (cellsP T i P AS)[k * 9 + j]? = (plc (T (i + k)) pl av)[j]?
 | i, p :: P, a :: AS, 0, pl, av, h, h1, h2, j, hj => by
  simp at h1 h2; subst h1 h2
  simp only [cellsP, Nat.zero_mul, Nat.zero_add, Nat.add_zero]
  rw [List.getElem?_append_left (by rw [plc_len]; exact hj)]
 | i, p :: P, a :: AS, k + 1, pl, av, h, h1, h2, j, hj => by
  simp only [cellsP]
  rw [List.getElem?_append_right (by rw [plc_len]; omega), plc_len, show (k + 1) * 9 + j - 9 = k * 9 + j by omega, show i + (k + 1) = i + 1 + k by omega]
  exact cellsP_ati T (i + 1) P AS k pl av (by simpa using h) (by simpa using h1) (by simpa using h2) j hj
 | i, [], _, k, pl, av, h, h1, _, _, _ => by cases h1
theorem cellsP_at (T : Nat → Nat) (P : List Pl) (AS : List Value) (k : Nat) (pl : Pl) (av : Value) (h : AS.length = P.length) (h1 : P[k]? = some pl) (h2 : AS[k]? = some av) (j : Nat) (hj : j < 9) : (cellsP T 0 P AS)[k * 9 + j]? = (plc (T k) pl av)[j]? := by
 have := cellsP_ati T 0 P AS k pl av h h1 h2 j hj
 rwa [Nat.zero_add] at this
structure MRep (T : Nat → Nat) (B m : Nat) (w : World) (pv : Value) (AS : List Value) (P : List Pl) : Prop where
 box : w.heap[m]? = some (.cells #[pv, .slice none 0 0] 156 (0, 0))
 mB : B ≤ m
 row : w.ownsRow B 159 9 pv P.length (cellsP T 0 P AS)
 lenA : AS.length = P.length
 also : ∀ (k : Nat) (pl : Pl) (av : Value), P[k]? = some pl → AS[k]? = some av → w.ownsRow B 3 1 av pl.also.length (pl.also.map fun (q : Nat) => Value.int .i64 (q : Int))
 ap1 : ∀ (k : Nat) (av : Value) (g : Nat), AS[k]? = some av → av.ownBlock = some g → g ≠ m ∧ pv.ownBlock ≠ some g
 ap2 : ∀ (i j : Nat) (a b : Value) (g : Nat), AS[i]? = some a → AS[j]? = some b → a.ownBlock = some g → b.ownBlock = some g → i = j
 apm : pv.ownBlock ≠ some m
theorem owns_kept {w w' : World} {B : Nat} {e : TypeId} {sz : Nat} {v : Value} {n : Nat} {xs : List Value} (h : w.ownsRow B e sz v n xs) (hb : ∀ g, v.ownBlock = some g → w'.heap[g]? = w.heap[g]?) : w'.ownsRow B e sz v n xs := by
 refine ⟨h.1, ?_⟩
 rcases h.2 with hn | ⟨g, cap, cur, rfl, hB, hg, rest⟩
 ·exact .inl hn
 ·exact .inr ⟨g, cap, cur, rfl, hB, (hb g rfl).trans hg, rest⟩
def Own (m : Nat) (pv : Value) (AS : List Value) (g : Nat) : Prop := g = m ∨ pv.ownBlock = some g ∨ ∃ a ∈ AS, a.ownBlock = some g
structure LF (w w' : World) (O O' : Nat → Prop) : Prop where
 os : w'.os = w.os
 tape : w'.tape = w.tape
 output : w'.output = w.output
 size : w.heap.size ≤ w'.heap.size
 same : ∀ g, g < w.heap.size → ¬ O g → w'.heap[g]? = w.heap[g]?
 own : ∀ g, O' g → O g ∨ w.heap.size ≤ g
theorem LF.trans {a b c : World} {O O' O2 : Nat → Prop} (h : LF a b O O') (k : LF b c O' O2) : LF a c O O2 :=
 ⟨k.os.trans h.os, k.tape.trans h.tape, k.output.trans h.output, Nat.le_trans h.size k.size,
  fun g hg hO => (k.same g (Nat.lt_of_lt_of_le hg h.size) (fun h' => by rcases h.own g h' with h1 | h1; exact hO h1; omega)).trans (h.same g hg hO),
  fun g hg => by
   rcases k.own g hg with h1 | h1
   ·exact h.own g h1
   ·exact .inr (Nat.le_trans h.size h1)⟩
theorem LF.ofBelow {w w' : World} {O : Nat → Prop} (h : Below w.heap.size w w') : LF w w' O O := ⟨h.os, h.tape, h.output, h.size, fun g hg _ => h.block g hg, fun g hg => .inl hg⟩
theorem MRep.own_ge {T : Nat → Nat} {B m : Nat} {w : World} {pv : Value} {AS : List Value} {P : List Pl} (h : MRep T B m w pv AS P) {g : Nat} (hg : Own m pv AS g) : B ≤ g ∧ g < w.heap.size := by
 rcases hg with rfl | hg | ⟨a, ha, hg⟩
 ·exact ⟨h.mB, (Array.getElem?_eq_some_iff.1 h.box).1⟩
 ·exact h.row.lt g hg
 ·obtain ⟨k, hk⟩ := List.mem_iff_getElem?.1 ha
  have hlt : k < P.length := by rw [← h.lenA]; exact (List.getElem?_eq_some_iff.1 hk).1
  exact (h.also k _ a (List.getElem?_eq_getElem hlt) hk).lt g hg
theorem LF.below {T : Nat → Nat} {B m : Nat} {w w' : World} {pv : Value} {AS : List Value} {P : List Pl} {O' : Nat → Prop} (h : LF w w' (Own m pv AS) O') (hM : MRep T B m w pv AS P) (hB : B ≤ w.heap.size) : Below B w w' :=
 ⟨h.os, h.tape, h.output, h.size, fun g hg => h.same g (by omega) (fun ho => by have := (hM.own_ge ho).1; omega)⟩
theorem MRep.below {T : Nat → Nat} {B m : Nat} {w w' : World} {pv : Value} {AS : List Value} {P : List Pl} (h : MRep T B m w pv AS P) (hb : Below w.heap.size w w') : MRep T B m w' pv AS P :=
 ⟨(hb.block m (Array.getElem?_eq_some_iff.1 h.box).1).trans h.box, h.mB, owns_kept h.row (fun g hg => hb.block g (h.row.lt g hg).2), h.lenA,
  fun k pl av h1 h2 => owns_kept (h.also k pl av h1 h2) (fun g hg => hb.block g ((h.also k pl av h1 h2).lt g hg).2), h.ap1, h.ap2, h.apm⟩
theorem heap_set0 {w : World} {k : Nat} {cs : Array Value} {t : TypeId} (v : Value) (h : w.heap[k]? = some (.cells cs t (0, 0))) : (w.setCell ⟨k, 0, none⟩ v).heap[k]? = some (.cells (cs.setIfInBounds 0 v) t (0, 0)) := heap_setCell_same w k 0 cs t v h
theorem MRep.pushed {T : Nat → Nat} {B m : Nat} {w1 w2 : World} {pv pv' : Value} {AS : List Value} {P : List Pl} {pl : Pl} (h : MRep T B m w1 pv AS P) (hpl : pl.also = [])
  (hown : w2.ownsRow B 159 9 pv' (P.length + 1) (cellsP T 0 P AS ++ plc (T P.length) pl (.slice none 0 0))) (hg : w1.grownBy w2 pv.ownBlock) (hat : pv'.ownBlock = pv.ownBlock ∨ pv'.ownBlock = some w1.heap.size) :
  MRep T B m (w2.setCell ⟨m, 0, none⟩ pv') pv' (AS ++ [.slice none 0 0]) (P ++ [pl]) := by
 have hml : m < w1.heap.size := (Array.getElem?_eq_some_iff.1 h.box).1
 have hmb : w2.heap[m]? = some (.cells #[pv, .slice none 0 0] 156 (0, 0)) := (hg.block m hml (fun e => h.apm e.symm)).trans h.box
 have hmp : pv'.ownBlock ≠ some m := by
  rcases hat with e | e
  ·rw [e]; exact h.apm
  ·rw [e]; intro e2; have := Option.some.inj e2; omega
 have old : ∀ (k : Nat) (av : Value), AS[k]? = some av → ∀ g, av.ownBlock = some g → (w2.setCell ⟨m, 0, none⟩ pv').heap[g]? = w1.heap[g]? ∧ g < w1.heap.size := by
  intro k av hk g hgo
  obtain ⟨pl0, hp0⟩ : ∃ pl0, P[k]? = some pl0 := by
   have : k < P.length := by rw [← h.lenA]; exact (List.getElem?_eq_some_iff.1 hk).1
   exact ⟨_, List.getElem?_eq_getElem this⟩
  have hl := ((h.also k pl0 av hp0 hk).lt g hgo).2
  have ha := h.ap1 k av g hk hgo
  exact ⟨(Below.heap_setCell _ _ _ _ ha.1).trans (hg.block g hl (fun e => ha.2 e.symm)), hl⟩
 have hAS : ∀ (k : Nat) (av : Value), (AS ++ [.slice none 0 0])[k]? = some av → ∀ g, av.ownBlock = some g → AS[k]? = some av := by
  intro k av hk g hgo
  by_cases hlt : k < AS.length
  ·rwa [List.getElem?_append_left hlt] at hk
  ·rw [List.getElem?_append_right (by omega)] at hk
   by_cases e : k - AS.length = 0
   ·rw [e] at hk; simp at hk; subst hk; cases hgo
   ·have : ([Value.slice none 0 0] : List Value)[k - AS.length]? = none := by rw [List.getElem?_eq_none_iff]; simp; omega
    rw [this] at hk; cases hk
 refine ⟨?_, h.mB, ?_, by simp [h.lenA], ?_, ?_, ?_, hmp⟩
 ·rw [heap_set0 pv' hmb]; rfl
 ·rw [cellsP_app T 0 P AS pl _ h.lenA, Nat.zero_add]
  have : (P ++ [pl]).length = P.length + 1 := by simp
  rw [this]
  exact owns_kept hown (fun g hgo => Below.heap_setCell _ _ _ _ (fun e => hmp (by rw [hgo]; exact congrArg some e)))
 ·intro k pl1 av hp hk
  by_cases hlt : k < AS.length
  ·rw [List.getElem?_append_left hlt] at hk
   rw [List.getElem?_append_left (by rw [← h.lenA]; exact hlt)] at hp
   exact owns_kept (h.also k pl1 av hp hk) (fun g hgo => (old k av hk g hgo).1)
  ·have hk' : k = AS.length := by
    have : k < (AS ++ [Value.slice none 0 0]).length := (List.getElem?_eq_some_iff.1 hk).1
    simp at this; omega
   subst hk'
   rw [List.getElem?_append_right (Nat.le_refl _), Nat.sub_self] at hk
   rw [h.lenA, List.getElem?_append_right (Nat.le_refl _), Nat.sub_self] at hp
   simp at hk hp
   subst hk hp
   rw [hpl]
   exact World.ownsRow_nil _ _ _ _
 ·intro k av g hk hgo
  have hk2 := hAS k av hk g hgo
  refine ⟨(h.ap1 k av g hk2 hgo).1, ?_⟩
  rcases hat with e | e
  ·rw [e]; exact (h.ap1 k av g hk2 hgo).2
  ·rw [e]; intro e2; have := Option.some.inj e2; have := (old k av hk2 g hgo).2; omega
 ·intro i j a b g hi hj ha hb
  exact h.ap2 i j a b g (hAS i a hi g ha) (hAS j b hj g hb) ha hb
theorem owns_set {w : World} {B : Nat} {e : TypeId} {sz : Nat} {pg cap n : Nat} {xs : List Value} (h : w.ownsRow B e sz (.slice (some ⟨pg, 0, none⟩) n cap) n xs) (j : Nat) (u : Value) :
  (w.setCell ⟨pg, j, none⟩ u).ownsRow B e sz (.slice (some ⟨pg, 0, none⟩) n cap) n (xs.set j u) := by
 refine ⟨by rw [List.length_set]; exact h.1, ?_⟩
 rcases h.2 with ⟨hn, _⟩ | ⟨g, cap', cur, hv, hB, hg, hc, hcm, hs, ht⟩
 ·cases hn
 ·injection hv with h1 h2 h3
  have h1' : pg = g := by injection h1 with h1; injection h1
  subst h1' h3
  refine .inr ⟨pg, cap, cur.setIfInBounds j u, rfl, hB, heap_setCell_same w pg j cur e u hg, hc, hcm, by simp [hs], ?_⟩
  rw [← ht, Array.toList_setIfInBounds, List.take_set]
theorem cellsP_set (T : Nat → Nat) : ∀ (i : Nat) (P : List Pl) (AS : List Value) (k : Nat) (l : List Nat) (av : Value), AS.length = P.length → k < P.length →
  cellsP T i (P.modify k fun pl => { pl with also := l }) (AS.set k av) = (cellsP T i P AS).set (k * 9 + 7) av
 | i, p :: P, a :: AS, 0, l, av, h, hk => by
  obtain ⟨k', x, y, z, u, hbc, -⟩ := bcs_shape p.b
  simp [cellsP, plc, hbc]
 | i, p :: P, a :: AS, k + 1, l, av, h, hk => by
  simp only [List.modify_succ_cons, List.set_cons_succ, cellsP]
  rw [cellsP_set T (i + 1) P AS k l av (by simpa using h) (by simpa using hk), List.set_append_right _ _ (by rw [plc_len]; omega), plc_len]
  congr 2
  omega
 | i, [], _, k, l, av, h, hk => by simp at hk
 | i, p :: P, [], _, _, _, h, _ => by simp at h
theorem MRep.restored {T : Nat → Nat} {B m : Nat} {w1 w2 : World} {pg n cap k : Nat} {av0 av : Value} {AS : List Value} {P : List Pl} {l : List Nat} (h : MRep T B m w1 (.slice (some ⟨pg, 0, none⟩) n cap) AS P)
  (hk : AS[k]? = some av0) (hg : w1.grownBy w2 av0.ownBlock) (hown : w2.ownsRow B 3 1 av l.length (l.map fun (q : Nat) => Value.int .i64 (q : Int)))
  (hat : av.ownBlock = av0.ownBlock ∨ ∃ g, av.ownBlock = some g ∧ w1.heap.size ≤ g) :
  MRep T B m (w2.setCell ⟨pg, k * 9 + 7, none⟩ av) (.slice (some ⟨pg, 0, none⟩) n cap) (AS.set k av) (P.modify k fun pl => { pl with also := l }) := by
 have hkl : k < P.length := by rw [← h.lenA]; exact (List.getElem?_eq_some_iff.1 hk).1
 have hn : n = P.length := by
  rcases h.row.2 with ⟨hv, _⟩ | ⟨g, cap', cur, hv, _⟩
  ·cases hv
  ·injection hv
 subst hn
 have hpgl : pg < w1.heap.size := (h.row.lt pg rfl).2
 have hml : m < w1.heap.size := (Array.getElem?_eq_some_iff.1 h.box).1
 have hpm : pg ≠ m := fun e => h.apm (congrArg some e)
 have h0 : ∀ g, av0.ownBlock = some g → g ≠ m ∧ g ≠ pg := fun g hgo => ⟨(h.ap1 k av0 g hk hgo).1, fun e => (h.ap1 k av0 g hk hgo).2 (congrArg some e.symm)⟩
 have hpb : w2.heap[pg]? = w1.heap[pg]? := hg.block pg hpgl (fun e => (h0 pg e.symm).2 rfl)
 have hmb : w2.heap[m]? = w1.heap[m]? := hg.block m hml (fun e => (h0 m e.symm).1 rfl)
 have hav : ∀ g, av.ownBlock = some g → g ≠ m ∧ g ≠ pg := by
  intro g hgo
  rcases hat with e | ⟨g', e, hl⟩
  ·exact h0 g (by rw [← e]; exact hgo)
  ·rw [e] at hgo; obtain rfl := Option.some.inj hgo; exact ⟨by omega, by omega⟩
 have hrow : w2.ownsRow B 159 9 (.slice (some ⟨pg, 0, none⟩) P.length cap) P.length (cellsP T 0 P AS) := owns_kept h.row (fun g hgo => by obtain rfl := Option.some.inj hgo; exact hpb)
 have hset : ∀ (i : Nat) (a : Value), (AS.set k av)[i]? = some a → (i = k ∧ a = av) ∨ (i ≠ k ∧ AS[i]? = some a) := by
  intro i a hi
  by_cases e : i = k
  ·subst e
   rw [List.getElem?_set_self (by rw [h.lenA]; exact hkl)] at hi
   exact .inl ⟨rfl, (Option.some.inj hi).symm⟩
  ·rw [List.getElem?_set_ne (Ne.symm e)] at hi
   exact .inr ⟨e, hi⟩
 have hpi : ∀ (i : Nat) (a : Value), AS[i]? = some a → ∃ pl, P[i]? = some pl := fun i a hi => ⟨_, List.getElem?_eq_getElem (by rw [← h.lenA]; exact (List.getElem?_eq_some_iff.1 hi).1)⟩
 refine ⟨?_, h.mB, ?_, by simp [h.lenA], ?_, ?_, ?_, h.apm⟩
 ·exact (Below.heap_setCell w2 ⟨pg, k * 9 + 7, none⟩ av m (Ne.symm hpm)).trans (hmb.trans h.box)
 ·rw [cellsP_set T 0 P AS k l av h.lenA hkl]
  have : (P.modify k fun pl => { pl with also := l }).length = P.length := by simp
  rw [this]
  exact owns_set hrow _ _
 ·intro i pl a hp hi
  rcases hset i a hi with ⟨rfl, rfl⟩ | ⟨hne, hi2⟩
  ·obtain ⟨pl0, hp0⟩ := hpi i av0 hk
   rw [List.getElem?_modify, hp0] at hp
   simp at hp
   subst hp
   exact owns_kept hown (fun g hgo => Below.heap_setCell w2 ⟨pg, i * 9 + 7, none⟩ a g (hav g hgo).2)
  ·have hp2 : P[i]? = some pl := by
    rw [List.getElem?_modify] at hp
    simp only [if_neg (Ne.symm hne)] at hp
    cases hP : P[i]? with
    | none => rw [hP] at hp; cases hp
    | some y => rw [hP] at hp; simpa using hp
   have ho := h.also i pl a hp2 hi2
   refine owns_kept ho (fun g hgo => ?_)
   have h1 := h.ap1 i a g hi2 hgo
   refine (Below.heap_setCell w2 ⟨pg, k * 9 + 7, none⟩ av g (fun e => h1.2 (congrArg some e.symm))).trans (hg.block g (ho.lt g hgo).2 (fun e => hne (h.ap2 i k a av0 g hi2 hk hgo e.symm)))
 ·intro i a g hi hgo
  rcases hset i a hi with ⟨rfl, rfl⟩ | ⟨hne, hi2⟩
  ·exact ⟨(hav g hgo).1, fun e => (hav g hgo).2 (Option.some.inj e).symm⟩
  ·exact h.ap1 i a g hi2 hgo
 ·intro i j a c g hi hj ha hc
  have key : ∀ (i : Nat) (a : Value), i ≠ k → AS[i]? = some a → a.ownBlock = some g → av.ownBlock = some g → False := by
   intro i a hne hi2 ha hv
   rcases hat with e | ⟨g', e, hl⟩
   ·exact hne (h.ap2 i k a av0 g hi2 hk ha (by rw [← e]; exact hv))
   ·rw [e] at hv; obtain rfl := Option.some.inj hv
    obtain ⟨pl, hp⟩ := hpi i a hi2
    have := ((h.also i pl a hp hi2).lt g' ha).2
    omega
  rcases hset i a hi with ⟨rfl, rfl⟩ | ⟨hne, hi2⟩
  ·rcases hset j c hj with ⟨rfl, rfl⟩ | ⟨hne2, hj2⟩
   ·rfl
   ·exact (key j c hne2 hj2 hc ha).elim
  ·rcases hset j c hj with ⟨rfl, rfl⟩ | ⟨hne2, hj2⟩
   ·exact (key i a hne hi2 ha hc).elim
   ·exact h.ap2 i j a c g hi2 hj2 ha hc
theorem LF.restored {T : Nat → Nat} {B m : Nat} {w1 w2 : World} {pg n cap k j : Nat} {av0 av : Value} {AS : List Value} {P : List Pl} (h : MRep T B m w1 (.slice (some ⟨pg, 0, none⟩) n cap) AS P)
  (hk : AS[k]? = some av0) (hg : w1.grownBy w2 av0.ownBlock) (hat : av.ownBlock = av0.ownBlock ∨ ∃ g, av.ownBlock = some g ∧ w1.heap.size ≤ g) :
  LF w1 (w2.setCell ⟨pg, j, none⟩ av) (Own m (.slice (some ⟨pg, 0, none⟩) n cap) AS) (Own m (.slice (some ⟨pg, 0, none⟩) n cap) (AS.set k av)) := by
 refine ⟨hg.os, hg.tape, hg.output, by have := hg.size; simpa using this, fun g hgl hO => ?_, fun g ho => ?_⟩
 ·exact (Below.heap_setCell w2 ⟨pg, j, none⟩ av g (fun e => hO (.inr (.inl (congrArg some e.symm))))).trans (hg.block g hgl (fun e => hO (.inr (.inr ⟨av0, List.mem_iff_getElem?.2 ⟨k, hk⟩, e.symm⟩))))
 ·rcases ho with h1 | h1 | ⟨a, ha, h1⟩
  ·exact .inl (.inl h1)
  ·exact .inl (.inr (.inl h1))
  ·rcases List.mem_or_eq_of_mem_set ha with ha | rfl
   ·exact .inl (.inr (.inr ⟨a, ha, h1⟩))
   ·rcases hat with e | ⟨g', e, hl⟩
    ·exact .inl (.inr (.inr ⟨av0, List.mem_iff_getElem?.2 ⟨k, hk⟩, by rw [← e]; exact h1⟩))
    ·rw [e] at h1; obtain rfl := Option.some.inj h1; exact .inr hl
theorem MRep.cellat {T : Nat → Nat} {B m : Nat} {w : World} {pg n cap : Nat} {AS : List Value} {P : List Pl} (h : MRep T B m w (.slice (some ⟨pg, 0, none⟩) n cap) AS P) {k : Nat} {pl : Pl} {av : Value} (hp : P[k]? = some pl) (hk : AS[k]? = some av) :
  (∀ j, j < 9 → w.cell? ⟨pg, k * 9 + j, none⟩ = (plc (T k) pl av)[j]?) ∧ (∀ j, w.frozen? ⟨pg, j, none⟩ = false) ∧ n = P.length ∧ n ≤ cap := by
 have hkl : k < P.length := (List.getElem?_eq_some_iff.1 hp).1
 rcases h.row.2 with ⟨hv, _⟩ | ⟨g, cap', cur, hv, hB, hg, hc, hcm, hs, ht⟩
 ·cases hv
 ·injection hv with h1 h2 h3
  have h1' : pg = g := by injection h1 with h1; injection h1
  subst h1' h2 h3
  refine ⟨fun j hj => ?_, fun j => Lib.frozen_of_heap hg j, rfl, hc⟩
  rw [Lib.cell_of_heap hg, ← cellsP_at T P AS k pl av h.lenA hp hk j hj, ← ht, List.getElem?_take, if_pos (by omega), Array.getElem?_toList]
theorem plc7 (t : Nat) (pl : Pl) (av : Value) : (plc t pl av)[7]? = some av := by
 obtain ⟨k, x, y, z, u, h, -⟩ := bcs_shape pl.b
 simp [plc, h]
theorem MRep.sl {T : Nat → Nat} {B m : Nat} {w : World} {pv : Value} {AS : List Value} {P : List Pl} (h : MRep T B m w pv AS P) (h0 : 0 < P.length) : ∃ pg cap, pv = .slice (some ⟨pg, 0, none⟩) P.length cap := by
 rcases h.row.2 with ⟨_, h3⟩ | ⟨g, cap', cur, hv, _⟩
 ·omega
 ·exact ⟨g, cap', hv⟩
def zero9 : Array Value := #[.int .i64 0, .int .u64 0, .int .u64 0, .int .u64 0, .int .u64 0, noKids, .int .i64 0, .slice none 0 0, .int .u64 0]
theorem info64 : (Tryz.prog.info? 159).map (fun i => (i.zero, i.size, i.bytes)) = some (some (.agg zero9), 9, 104) := by kernel_rfl
theorem info3 : (Tryz.prog.info? 3).map (fun i => (i.zero, i.size, i.bytes)) = some (some (.int .i64 0), 1, 8) := by kernel_rfl
theorem keepS_B {S : Nat → Prop} {B : Nat} {w w' : World} (hS : ∀ g, S g → g < B) (h : Below B w w') : KeepS S w w' := ⟨h.size, fun g hg _ => h.block g (hS g hg)⟩
end Go.Proofs.YtochckefnjobhaaGreatDoor
