/- regex's matcher: its places in memory. -/
import Derived.Test.YtndefngkkikkeaaXf
namespace Go.Proofs.Ytndefngkkikkeaa
open Go Go.RowKit Go.Lib
open X3 (RX Pl)
set_option linter.unusedVariables false
set_option linter.unusedSimpArgs false

theorem wp_append_own_at {P : Program} {w : World} {o : Oper} {a : Act} {K : Act → World → Prop} {Q : Exit → Act → World → Prop} (s x : Operand) (t : TypeId)
    (ho : o.op = .call { callee := .builtin .append, args := #[s, x], argTypes := #[t, t] })
    (base : Nat) (e : TypeId) (i : TypeInfo) (z : Value) (size bytes : Nat) (ht : P.underlying t = some (.slice e)) (hi : P.info? e = some i) (hz : i.zero = some z)
    (hsize : i.size = size) (hby : i.bytes = bytes) (hzs : z.cells.size = size) (hsz : 0 < size)
    (v : Value) (n : Nat) (xs : List Value) (hs : a.eval s = v) (hown : w.ownsRow base e size v n xs)
    (ad : Addr) (m c : Nat) (news : List Value) (hx : a.eval x = .slice (some ad) m c) (hl : news.length = m * size) (hnews : ∀ j u, news[j]? = some u → w.cell? (ad.add j) = some u) (h1 : ∀ u ∈ news, u.oneCell' = true)
    (h63 : n + m ≤ maxLen) (hbytes : (n + m) * bytes ≤ 140737488355328) (hbase : base ≤ w.heap.size)
    (h : ∀ v' w', w'.ownsRow base e size v' (n + m) (xs ++ news) → w.grownBy w' v.ownBlock → (v' = .slice none 0 0 ↔ v = .slice none 0 0 ∧ m = 0) → (v'.ownBlock = v.ownBlock ∨ v'.ownBlock = some w.heap.size) → K (a.put o.dst v') w') :
    o.wp P a w K Q := by
  obtain ⟨v', w', hr, h2, h3, h4, h5⟩ := run_append_own_at (P := P) w base t o.type e i z size bytes ht hi hz hsize hby hzs hsz v n xs hown ad m c news hl hnews h1 h63 hbytes hbase
  unfold Oper.wp execOp
  simp only [ho, resolve, invoke, builtin, Sem.run_bind, Sem.run_pure, Result.andThen_ok, List.map_toArray, List.map_cons, List.map_nil, hs, hx, hr]
  exact h v' w' h2 h3 h4 h5

/-- A place's bytes, as a regex. -/
def nodeOf : RX → Value
  | .bytes x y z u => nodeV 1 x y z u noKids
  | _ => nodeV 0 0 0 0 0 noKids
def bcs : RX → List Value
  | .bytes x y z u => [.int .i64 1, .int .u64 x, .int .u64 y, .int .u64 z, .int .u64 u, noKids]
  | _ => [.int .i64 0, .int .u64 0, .int .u64 0, .int .u64 0, .int .u64 0, noKids]
theorem bcs_len (b : RX) : (bcs b).length = 6 := by cases b <;> rfl
theorem bcs_shape (b : RX) : ∃ k x y z u : Int, bcs b = [.int .i64 k, .int .u64 x, .int .u64 y, .int .u64 z, .int .u64 u, noKids] ∧ nodeOf b = nodeV k x y z u noKids := by
  cases b <;> exact ⟨_, _, _, _, _, rfl, rfl⟩
def plc (pl : Pl) (av : Value) : List Value := bcs pl.b ++ [.int .i64 pl.next, av]
theorem plc_len (pl : Pl) (av : Value) : (plc pl av).length = 8 := by simp [plc, bcs_len]
def cellsP : List Pl → List Value → List Value
  | pl :: P, av :: AS => plc pl av ++ cellsP P AS
  | _, _ => []
theorem cellsP_app : ∀ (P : List Pl) (AS : List Value) (pl : Pl) (av : Value), AS.length = P.length → cellsP (P ++ [pl]) (AS ++ [av]) = cellsP P AS ++ plc pl av
  | [], [], pl, av, _ => by simp [cellsP]
  | p :: P, a :: AS, pl, av, h => by
    simp only [List.cons_append, cellsP]
    rw [cellsP_app P AS pl av (by simpa using h), List.append_assoc]
theorem cellsP_len : ∀ (P : List Pl) (AS : List Value), AS.length = P.length → (cellsP P AS).length = P.length * 8
  | [], [], _ => rfl
  | p :: P, a :: AS, h => by
    simp only [cellsP, List.length_append, plc_len, List.length_cons]
    rw [cellsP_len P AS (by simpa using h)]; omega
theorem cellsP_at : ∀ (P : List Pl) (AS : List Value) (k : Nat) (pl : Pl) (av : Value), AS.length = P.length → P[k]? = some pl → AS[k]? = some av → ∀ j, j < 8 → (cellsP P AS)[k * 8 + j]? = (plc pl av)[j]?
  | p :: P, a :: AS, 0, pl, av, h, h1, h2, j, hj => by
    simp at h1 h2; subst h1 h2
    simp only [cellsP, Nat.zero_mul, Nat.zero_add]
    rw [List.getElem?_append_left (by rw [plc_len]; exact hj)]
  | p :: P, a :: AS, k + 1, pl, av, h, h1, h2, j, hj => by
    simp only [cellsP]
    rw [List.getElem?_append_right (by rw [plc_len]; omega), plc_len, show (k + 1) * 8 + j - 8 = k * 8 + j by omega]
    exact cellsP_at P AS k pl av (by simpa using h) (by simpa using h1) (by simpa using h2) j hj
  | [], _, k, pl, av, h, h1, _, _, _ => by cases h1

/-- The matcher's places in memory, while they are laid. -/
structure MRep (B m : Nat) (w : World) (pv : Value) (AS : List Value) (P : List Pl) : Prop where
  box : w.heap[m]? = some (.cells #[pv, .slice none 0 0, .int .i64 0] 63 (0, 0))
  mB : B ≤ m
  row : w.ownsRow B 60 8 pv P.length (cellsP P AS)
  lenA : AS.length = P.length
  also : ∀ (k : Nat) (pl : Pl) (av : Value), P[k]? = some pl → AS[k]? = some av → w.ownsRow B 3 1 av pl.also.length (pl.also.map fun (q : Nat) => Value.int .i64 (q : Int))
  ap1 : ∀ (k : Nat) (av : Value) (g : Nat), AS[k]? = some av → av.ownBlock = some g → g ≠ m ∧ pv.ownBlock ≠ some g
  ap2 : ∀ (i j : Nat) (a b : Value) (g : Nat), AS[i]? = some a → AS[j]? = some b → a.ownBlock = some g → b.ownBlock = some g → i = j
  apm : pv.ownBlock ≠ some m

theorem owns_kept {w w' : World} {B : Nat} {e : TypeId} {sz : Nat} {v : Value} {n : Nat} {xs : List Value} (h : w.ownsRow B e sz v n xs) (hb : ∀ g, v.ownBlock = some g → w'.heap[g]? = w.heap[g]?) : w'.ownsRow B e sz v n xs := by
  refine ⟨h.1, ?_⟩
  rcases h.2 with hn | ⟨g, cap, cur, rfl, hB, hg, rest⟩
  · exact .inl hn
  · exact .inr ⟨g, cap, cur, rfl, hB, (hb g rfl).trans hg, rest⟩

/-- The blocks of a matcher. -/
def Own (m : Nat) (pv : Value) (AS : List Value) (g : Nat) : Prop := g = m ∨ pv.ownBlock = some g ∨ ∃ a ∈ AS, a.ownBlock = some g
/-- All but some blocks lies there yet; those that may turn are elder ones of them, or new. -/
structure LF (w w' : World) (O O' : Nat → Prop) : Prop where
  os : w'.os = w.os
  tape : w'.tape = w.tape
  output : w'.output = w.output
  size : w.heap.size ≤ w'.heap.size
  same : ∀ g, g < w.heap.size → ¬ O g → w'.heap[g]? = w.heap[g]?
  own : ∀ g, O' g → O g ∨ w.heap.size ≤ g
theorem LF.trans {a b c : World} {O O' O2 : Nat → Prop} (h : LF a b O O') (k : LF b c O' O2) : LF a c O O2 :=
  ⟨k.os.trans h.os, k.tape.trans h.tape, k.output.trans h.output, Nat.le_trans h.size k.size,
    fun g hg hO => (k.same g (Nat.lt_of_lt_of_le hg h.size) (fun h' => by rcases h.own g h' with h1 | h1; exact hO h1; omega)).trans (h.same g hg hO),
    fun g hg => by
      rcases k.own g hg with h1 | h1
      · exact h.own g h1
      · exact .inr (Nat.le_trans h.size h1)⟩
theorem LF.ofBelow {w w' : World} {O : Nat → Prop} (h : Below w.heap.size w w') : LF w w' O O := ⟨h.os, h.tape, h.output, h.size, fun g hg _ => h.block g hg, fun g hg => .inl hg⟩
theorem MRep.own_ge {B m : Nat} {w : World} {pv : Value} {AS : List Value} {P : List Pl} (h : MRep B m w pv AS P) {g : Nat} (hg : Own m pv AS g) : B ≤ g ∧ g < w.heap.size := by
  rcases hg with rfl | hg | ⟨a, ha, hg⟩
  · exact ⟨h.mB, (Array.getElem?_eq_some_iff.1 h.box).1⟩
  · exact h.row.lt g hg
  · obtain ⟨k, hk⟩ := List.mem_iff_getElem?.1 ha
    have hlt : k < P.length := by rw [← h.lenA]; exact (List.getElem?_eq_some_iff.1 hk).1
    exact (h.also k _ a (List.getElem?_eq_getElem hlt) hk).lt g hg
theorem LF.below {B m : Nat} {w w' : World} {pv : Value} {AS : List Value} {P : List Pl} {O' : Nat → Prop} (h : LF w w' (Own m pv AS) O') (hM : MRep B m w pv AS P) (hB : B ≤ w.heap.size) : Below B w w' :=
  ⟨h.os, h.tape, h.output, h.size, fun g hg => h.same g (by omega) (fun ho => by have := (hM.own_ge ho).1; omega)⟩

theorem MRep.below {B m : Nat} {w w' : World} {pv : Value} {AS : List Value} {P : List Pl} (h : MRep B m w pv AS P) (hb : Below w.heap.size w w') : MRep B m w' pv AS P :=
  ⟨(hb.block m (Array.getElem?_eq_some_iff.1 h.box).1).trans h.box, h.mB, owns_kept h.row (fun g hg => hb.block g (h.row.lt g hg).2), h.lenA,
    fun k pl av h1 h2 => owns_kept (h.also k pl av h1 h2) (fun g hg => hb.block g ((h.also k pl av h1 h2).lt g hg).2), h.ap1, h.ap2, h.apm⟩

def zero8 : Array Value := #[.int .i64 0, .int .u64 0, .int .u64 0, .int .u64 0, .int .u64 0, noKids, .int .i64 0, .slice none 0 0]
theorem info60 : (Try.prog.info? 60).map (fun i => (i.zero, i.size, i.bytes)) = some (some (.agg zero8), 8, 96) := by kernel_rfl
theorem info3 : (Try.prog.info? 3).map (fun i => (i.zero, i.size, i.bytes)) = some (some (.int .i64 0), 1, 8) := by kernel_rfl

end Go.Proofs.Ytndefngkkikkeaa
