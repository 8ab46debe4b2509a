/- regex's matcher: its places in memory. -/
import Derived.Test.YtochckefnjobhaaDoorXf
import Derived.Deep.LoopGhost
import Derived.Laws.AppendOwnNone
import Derived.Laws.BitsLemmas
import Derived.Deep.OwnRows
namespace Go.Proofs.YtochckefnjobhaaDoor.RM
open Go Go.RowKit Go.Lib
open X3 (RX Pl)
set_option linter.unusedVariables false
set_option linter.unusedSimpArgs false

theorem wp_append_own_at {P : Program} {w : World} {o : Oper} {a : Act} {K : Act → World → Prop} {Q : Exit → Act → World → Prop} (s x : Operand) (t : TypeId)
    (ho : o.op = .call { callee := .builtin .append, args := #[s, x], argTypes := #[t, t] })
    (base : Nat) (e : TypeId) (i : TypeInfo) (z : Value) (size bytes : Nat) (ht : P.underlying t = some (.slice e)) (hi : P.info? e = some i) (hz : i.zero = some z)
    (hsize : i.size = size) (hby : i.bytes = bytes) (hzs : z.cells.size = size) (hsz : 0 < size)
    (v : Value) (n : Nat) (xs : List Value) (hs : a.eval s = v) (hown : w.ownsRow base e size v n xs)
    (ad : Addr) (m c : Nat) (news : List Value) (hx : a.eval x = .slice (some ad) m c) (hl : news.length = m * size) (hnews : ∀ j u, news[j]? = some u → w.cell? (ad.add j) = some u) (h1 : ∀ u ∈ news, u.oneCell' = true)
    (h63 : n + m ≤ maxLen) (hbytes : (n + m) * bytes ≤ 140737488355328) (hbase : base ≤ w.heap.size)
    (h : ∀ v' w', w'.ownsRow base e size v' (n + m) (xs ++ news) → w.grownBy w' v.ownBlock → (v' = .slice none 0 0 ↔ v = .slice none 0 0 ∧ m = 0) → (v'.ownBlock = v.ownBlock ∨ v'.ownBlock = some w.heap.size) → K (a.put o.dst v') w') :
    o.wp P a w K Q := by
  obtain ⟨v', w', hr, h2, h3, h4, h5⟩ := run_append_own_at (P := P) w base t o.type e i z size bytes ht hi hz hsize hby hzs hsz v n xs hown ad m c news hl hnews h1 h63 hbytes hbase
  unfold Oper.wp execOp
  simp only [ho, resolve, invoke, builtin, Sem.run_bind, Sem.run_pure, Result.andThen_ok, List.map_toArray, List.map_cons, List.map_nil, hs, hx, hr]
  exact h v' w' h2 h3 h4 h5

/-- A place's bytes, as a regex. -/
def nodeOf : RX → Value
  | .bytes x y z u => nodeV 1 x y z u noKids
  | _ => nodeV 0 0 0 0 0 noKids
def bcs : RX → List Value
  | .bytes x y z u => [.int .i64 1, .int .u64 x, .int .u64 y, .int .u64 z, .int .u64 u, noKids]
  | _ => [.int .i64 0, .int .u64 0, .int .u64 0, .int .u64 0, .int .u64 0, noKids]
theorem bcs_len (b : RX) : (bcs b).length = 6 := by cases b <;> rfl
theorem bcs_shape (b : RX) : ∃ k x y z u : Int, bcs b = [.int .i64 k, .int .u64 x, .int .u64 y, .int .u64 z, .int .u64 u, noKids] ∧ nodeOf b = nodeV k x y z u noKids := by
  cases b <;> exact ⟨_, _, _, _, _, rfl, rfl⟩
def plc (pl : Pl) (av : Value) : List Value := bcs pl.b ++ [.int .i64 pl.next, av]
theorem plc_len (pl : Pl) (av : Value) : (plc pl av).length = 8 := by simp [plc, bcs_len]
def cellsP : List Pl → List Value → List Value
  | pl :: P, av :: AS => plc pl av ++ cellsP P AS
  | _, _ => []
theorem cellsP_app : ∀ (P : List Pl) (AS : List Value) (pl : Pl) (av : Value), AS.length = P.length → cellsP (P ++ [pl]) (AS ++ [av]) = cellsP P AS ++ plc pl av
  | [], [], pl, av, _ => by simp [cellsP]
  | p :: P, a :: AS, pl, av, h => by
    simp only [List.cons_append, cellsP]
    rw [cellsP_app P AS pl av (by simpa using h), List.append_assoc]
theorem cellsP_len : ∀ (P : List Pl) (AS : List Value), AS.length = P.length → (cellsP P AS).length = P.length * 8
  | [], [], _ => rfl
  | p :: P, a :: AS, h => by
    simp only [cellsP, List.length_append, plc_len, List.length_cons]
    rw [cellsP_len P AS (by simpa using h)]; omega
theorem cellsP_at : ∀ (P : List Pl) (AS : List Value) (k : Nat) (pl : Pl) (av : Value), AS.length = P.length → P[k]? = some pl → AS[k]? = some av → ∀ j, j < 8 → (cellsP P AS)[k * 8 + j]? = (plc pl av)[j]?
  | p :: P, a :: AS, 0, pl, av, h, h1, h2, j, hj => by
    simp at h1 h2; subst h1 h2
    simp only [cellsP, Nat.zero_mul, Nat.zero_add]
    rw [List.getElem?_append_left (by rw [plc_len]; exact hj)]
  | p :: P, a :: AS, k + 1, pl, av, h, h1, h2, j, hj => by
    simp only [cellsP]
    rw [List.getElem?_append_right (by rw [plc_len]; omega), plc_len, show (k + 1) * 8 + j - 8 = k * 8 + j by omega]
    exact cellsP_at P AS k pl av (by simpa using h) (by simpa using h1) (by simpa using h2) j hj
  | [], _, k, pl, av, h, h1, _, _, _ => by cases h1

/-- The matcher's places in memory, while they are laid. -/
structure MRep (B m : Nat) (w : World) (pv : Value) (AS : List Value) (P : List Pl) : Prop where
  box : w.heap[m]? = some (.cells #[pv, .slice none 0 0, .int .i64 0] 84 (0, 0))
  mB : B ≤ m
  row : w.ownsRow B 81 8 pv P.length (cellsP P AS)
  lenA : AS.length = P.length
  also : ∀ (k : Nat) (pl : Pl) (av : Value), P[k]? = some pl → AS[k]? = some av → w.ownsRow B 3 1 av pl.also.length (pl.also.map fun (q : Nat) => Value.int .i64 (q : Int))
  ap1 : ∀ (k : Nat) (av : Value) (g : Nat), AS[k]? = some av → av.ownBlock = some g → g ≠ m ∧ pv.ownBlock ≠ some g
  ap2 : ∀ (i j : Nat) (a b : Value) (g : Nat), AS[i]? = some a → AS[j]? = some b → a.ownBlock = some g → b.ownBlock = some g → i = j
  apm : pv.ownBlock ≠ some m

theorem owns_kept {w w' : World} {B : Nat} {e : TypeId} {sz : Nat} {v : Value} {n : Nat} {xs : List Value} (h : w.ownsRow B e sz v n xs) (hb : ∀ g, v.ownBlock = some g → w'.heap[g]? = w.heap[g]?) : w'.ownsRow B e sz v n xs := by
  refine ⟨h.1, ?_⟩
  rcases h.2 with hn | ⟨g, cap, cur, rfl, hB, hg, rest⟩
  · exact .inl hn
  · exact .inr ⟨g, cap, cur, rfl, hB, (hb g rfl).trans hg, rest⟩

/-- The blocks of a matcher. -/
def Own (m : Nat) (pv : Value) (AS : List Value) (g : Nat) : Prop := g = m ∨ pv.ownBlock = some g ∨ ∃ a ∈ AS, a.ownBlock = some g
/-- All but some blocks lies there yet; those that may turn are elder ones of them, or new. -/
structure LF (w w' : World) (O O' : Nat → Prop) : Prop where
  os : w'.os = w.os
  tape : w'.tape = w.tape
  output : w'.output = w.output
  size : w.heap.size ≤ w'.heap.size
  same : ∀ g, g < w.heap.size → ¬ O g → w'.heap[g]? = w.heap[g]?
  own : ∀ g, O' g → O g ∨ w.heap.size ≤ g
theorem LF.trans {a b c : World} {O O' O2 : Nat → Prop} (h : LF a b O O') (k : LF b c O' O2) : LF a c O O2 :=
  ⟨k.os.trans h.os, k.tape.trans h.tape, k.output.trans h.output, Nat.le_trans h.size k.size,
    fun g hg hO => (k.same g (Nat.lt_of_lt_of_le hg h.size) (fun h' => by rcases h.own g h' with h1 | h1; exact hO h1; omega)).trans (h.same g hg hO),
    fun g hg => by
      rcases k.own g hg with h1 | h1
      · exact h.own g h1
      · exact .inr (Nat.le_trans h.size h1)⟩
theorem LF.ofBelow {w w' : World} {O : Nat → Prop} (h : Below w.heap.size w w') : LF w w' O O := ⟨h.os, h.tape, h.output, h.size, fun g hg _ => h.block g hg, fun g hg => .inl hg⟩
theorem MRep.own_ge {B m : Nat} {w : World} {pv : Value} {AS : List Value} {P : List Pl} (h : MRep B m w pv AS P) {g : Nat} (hg : Own m pv AS g) : B ≤ g ∧ g < w.heap.size := by
  rcases hg with rfl | hg | ⟨a, ha, hg⟩
  · exact ⟨h.mB, (Array.getElem?_eq_some_iff.1 h.box).1⟩
  · exact h.row.lt g hg
  · obtain ⟨k, hk⟩ := List.mem_iff_getElem?.1 ha
    have hlt : k < P.length := by rw [← h.lenA]; exact (List.getElem?_eq_some_iff.1 hk).1
    exact (h.also k _ a (List.getElem?_eq_getElem hlt) hk).lt g hg
theorem LF.below {B m : Nat} {w w' : World} {pv : Value} {AS : List Value} {P : List Pl} {O' : Nat → Prop} (h : LF w w' (Own m pv AS) O') (hM : MRep B m w pv AS P) (hB : B ≤ w.heap.size) : Below B w w' :=
  ⟨h.os, h.tape, h.output, h.size, fun g hg => h.same g (by omega) (fun ho => by have := (hM.own_ge ho).1; omega)⟩

theorem MRep.below {B m : Nat} {w w' : World} {pv : Value} {AS : List Value} {P : List Pl} (h : MRep B m w pv AS P) (hb : Below w.heap.size w w') : MRep B m w' pv AS P :=
  ⟨(hb.block m (Array.getElem?_eq_some_iff.1 h.box).1).trans h.box, h.mB, owns_kept h.row (fun g hg => hb.block g (h.row.lt g hg).2), h.lenA,
    fun k pl av h1 h2 => owns_kept (h.also k pl av h1 h2) (fun g hg => hb.block g ((h.also k pl av h1 h2).lt g hg).2), h.ap1, h.ap2, h.apm⟩

def zero8 : Array Value := #[.int .i64 0, .int .u64 0, .int .u64 0, .int .u64 0, .int .u64 0, noKids, .int .i64 0, .slice none 0 0]
theorem info60 : (Tryd.prog.info? 81).map (fun i => (i.zero, i.size, i.bytes)) = some (some (.agg zero8), 8, 96) := by kernel_rfl
theorem info3 : (Tryd.prog.info? 3).map (fun i => (i.zero, i.size, i.bytes)) = some (some (.int .i64 0), 1, 8) := by kernel_rfl

end Go.Proofs.YtochckefnjobhaaDoor.RM

/- regex's matcher: add. -/
namespace Go.Proofs.YtochckefnjobhaaDoor.RM
open Go Go.RowKit Go.Lib
open X3 (RX Pl)
set_option linter.unusedVariables false
set_option linter.unusedSimpArgs false

theorem heap_set0 {w : World} {k : Nat} {cs : Array Value} {t : TypeId} (v : Value) (h : w.heap[k]? = some (.cells cs t (0, 0))) : (w.setCell ⟨k, 0, none⟩ v).heap[k]? = some (.cells (cs.setIfInBounds 0 v) t (0, 0)) := heap_setCell_same w k 0 cs t v h

theorem MRep.pushed {B m : Nat} {w1 w2 : World} {pv pv' : Value} {AS : List Value} {P : List Pl} {pl : Pl} (h : MRep B m w1 pv AS P) (hpl : pl.also = [])
    (hown : w2.ownsRow B 81 8 pv' (P.length + 1) (cellsP P AS ++ plc pl (.slice none 0 0))) (hg : w1.grownBy w2 pv.ownBlock) (hat : pv'.ownBlock = pv.ownBlock ∨ pv'.ownBlock = some w1.heap.size) :
    MRep B m (w2.setCell ⟨m, 0, none⟩ pv') pv' (AS ++ [.slice none 0 0]) (P ++ [pl]) := by
  have hml : m < w1.heap.size := (Array.getElem?_eq_some_iff.1 h.box).1
  have hmb : w2.heap[m]? = some (.cells #[pv, .slice none 0 0, .int .i64 0] 84 (0, 0)) := (hg.block m hml (fun e => h.apm e.symm)).trans h.box
  have hmp : pv'.ownBlock ≠ some m := by
    rcases hat with e | e
    · rw [e]; exact h.apm
    · rw [e]; intro e2; have := Option.some.inj e2; omega
  have old : ∀ (k : Nat) (av : Value), AS[k]? = some av → ∀ g, av.ownBlock = some g → (w2.setCell ⟨m, 0, none⟩ pv').heap[g]? = w1.heap[g]? ∧ g < w1.heap.size := by
    intro k av hk g hgo
    obtain ⟨pl0, hp0⟩ : ∃ pl0, P[k]? = some pl0 := by
      have : k < P.length := by rw [← h.lenA]; exact (List.getElem?_eq_some_iff.1 hk).1
      exact ⟨_, List.getElem?_eq_getElem this⟩
    have hl := ((h.also k pl0 av hp0 hk).lt g hgo).2
    have ha := h.ap1 k av g hk hgo
    exact ⟨(Below.heap_setCell _ _ _ _ ha.1).trans (hg.block g hl (fun e => ha.2 e.symm)), hl⟩
  have hAS : ∀ (k : Nat) (av : Value), (AS ++ [.slice none 0 0])[k]? = some av → ∀ g, av.ownBlock = some g → AS[k]? = some av := by
    intro k av hk g hgo
    by_cases hlt : k < AS.length
    · rwa [List.getElem?_append_left hlt] at hk
    · rw [List.getElem?_append_right (by omega)] at hk
      by_cases e : k - AS.length = 0
      · rw [e] at hk; simp at hk; subst hk; cases hgo
      · have : ([Value.slice none 0 0] : List Value)[k - AS.length]? = none := by rw [List.getElem?_eq_none_iff]; simp; omega
        rw [this] at hk; cases hk
  refine ⟨?_, h.mB, ?_, by simp [h.lenA], ?_, ?_, ?_, hmp⟩
  · rw [heap_set0 pv' hmb]; rfl
  · rw [cellsP_app P AS pl _ h.lenA]
    have : (P ++ [pl]).length = P.length + 1 := by simp
    rw [this]
    exact owns_kept hown (fun g hgo => Below.heap_setCell _ _ _ _ (fun e => hmp (by rw [hgo]; exact congrArg some e)))
  · intro k pl1 av hp hk
    by_cases hlt : k < AS.length
    · rw [List.getElem?_append_left hlt] at hk
      rw [List.getElem?_append_left (by rw [← h.lenA]; exact hlt)] at hp
      exact owns_kept (h.also k pl1 av hp hk) (fun g hgo => (old k av hk g hgo).1)
    · have hk' : k = AS.length := by
        have : k < (AS ++ [Value.slice none 0 0]).length := (List.getElem?_eq_some_iff.1 hk).1
        simp at this; omega
      subst hk'
      rw [List.getElem?_append_right (Nat.le_refl _), Nat.sub_self] at hk
      rw [h.lenA, List.getElem?_append_right (Nat.le_refl _), Nat.sub_self] at hp
      simp at hk hp
      subst hk hp
      rw [hpl]
      exact World.ownsRow_nil _ _ _ _
  · intro k av g hk hgo
    have hk2 := hAS k av hk g hgo
    refine ⟨(h.ap1 k av g hk2 hgo).1, ?_⟩
    rcases hat with e | e
    · rw [e]; exact (h.ap1 k av g hk2 hgo).2
    · rw [e]; intro e2; have := Option.some.inj e2; have := (old k av hk2 g hgo).2; omega
  · intro i j a b g hi hj ha hb
    exact h.ap2 i j a b g (hAS i a hi g ha) (hAS j b hj g hb) ha hb

set_option maxRecDepth 100000 in
set_option maxHeartbeats 4000000 in
theorem add_any (B m : Nat) (w : World) (pv : Value) (AS : List Value) (P : List Pl) (b : RX) (next : Nat) (h : MRep B m w pv AS P) (hP : P.length ≤ 1000000) (hBw : B ≤ w.heap.size) :
    Calls Tryd.prog 55 #[.pointer (some ⟨m, 0, none⟩), .agg (plc ⟨b, next, []⟩ (.slice none 0 0)).toArray] w fun e w' => ∃ pv', e = .returned (.int .i64 (P.length : Nat)) ∧ MRep B m w' pv' (AS ++ [.slice none 0 0]) (P ++ [⟨b, next, []⟩]) ∧ LF w w' (Own m pv AS) (Own m pv' (AS ++ [.slice none 0 0])) := by
  obtain ⟨k, x, y, z, u, hbc, -⟩ := bcs_shape b
  have hpc : plc ⟨b, next, []⟩ (.slice none 0 0) = [.int .i64 k, .int .u64 x, .int .u64 y, .int .u64 z, .int .u64 u, noKids, .int .i64 (next : Int), .slice none 0 0] := by simp [plc, hbc]
  have HPC := hid hpc
  rw [hpc]
  show Calls Tryd.prog 55 #[.pointer (some ⟨m, 0, none⟩), .agg #[.int .i64 k, .int .u64 x, .int .u64 y, .int .u64 z, .int .u64 u, noKids, .int .i64 (next : Int), .slice none 0 0]] w _
  clear hpc hbc
  have hml : m < w.heap.size := (Array.getElem?_eq_some_iff.1 h.box).1
  obtain ⟨w0, e0⟩ : ∃ w0, w.alloc (.cells #[.int .i64 k, .int .u64 x, .int .u64 y, .int .u64 z, .int .u64 u, noKids, .int .i64 (next : Int), .slice none 0 0] 81) = w0 := ⟨_, rfl⟩
  have hb0 : Below w.heap.size w w0 := by rw [← e0]; exact (Below.refl _ _).alloc (Nat.le_refl _) _
  have hz0 : w0.heap[w.heap.size]? = some (.cells #[.int .i64 k, .int .u64 x, .int .u64 y, .int .u64 z, .int .u64 u, noKids, .int .i64 (next : Int), .slice none 0 0] 81 (0, 0)) := by rw [← e0]; exact new_block _ _
  have hs0 : w0.heap.size = w.heap.size + 1 := by rw [← e0]; simp
  obtain ⟨wd, hwd⟩ : ∃ wd, w0.drew = wd := ⟨_, rfl⟩
  have hbd : Below w.heap.size w wd := by rw [← hwd]; exact hb0.drew
  have hzd : wd.heap[w.heap.size]? = some (.cells #[.int .i64 k, .int .u64 x, .int .u64 y, .int .u64 z, .int .u64 u, noKids, .int .i64 (next : Int), .slice none 0 0] 81 (0, 0)) := by rw [← hwd]; exact hz0
  have hsd : wd.heap.size = w.heap.size + 1 := by rw [← hwd]; exact hs0
  have hM := h.below hbd
  have pcell : ∀ (w' : World), w'.heap[w.heap.size]? = some (.cells #[.int .i64 k, .int .u64 x, .int .u64 y, .int .u64 z, .int .u64 u, noKids, .int .i64 (next : Int), .slice none 0 0] 81 (0, 0)) → (w'.cell? ⟨w.heap.size, 0, none⟩ = some (.int .i64 k) ∧ w'.cell? ⟨w.heap.size, 1, none⟩ = some (.int .u64 x) ∧ w'.cell? ⟨w.heap.size, 2, none⟩ = some (.int .u64 y) ∧ w'.cell? ⟨w.heap.size, 3, none⟩ = some (.int .u64 z) ∧ w'.cell? ⟨w.heap.size, 4, none⟩ = some (.int .u64 u) ∧ w'.cell? ⟨w.heap.size, 5, none⟩ = some noKids ∧ w'.cell? ⟨w.heap.size, 6, none⟩ = some (.int .i64 (next : Int)) ∧ w'.cell? ⟨w.heap.size, 7, none⟩ = some (.slice none 0 0)) := by
    intro w' hh
    refine ⟨?_, ?_, ?_, ?_, ?_, ?_, ?_, ?_⟩ <;> (rw [Lib.cell_of_heap hh]; rfl)
  have PC := hid pcell
  clear pcell
  have cm : wd.cell? ⟨m, 0, none⟩ = some pv := by rw [Lib.cell_of_heap hM.box]; rfl
  have HM := hid hM
  have HH := hid h
  clear hM h
  go_enter Tryd.func55, Tryd.ntmps55
  go_upto_region 1 with fail
  refine region_T 10 (fun w' => w'.cell? ⟨m, 0, none⟩ = some pv ∧ (w'.cell? ⟨w.heap.size, 0, none⟩ = some (.int .i64 k) ∧ w'.cell? ⟨w.heap.size, 1, none⟩ = some (.int .u64 x) ∧ w'.cell? ⟨w.heap.size, 2, none⟩ = some (.int .u64 y) ∧ w'.cell? ⟨w.heap.size, 3, none⟩ = some (.int .u64 z) ∧ w'.cell? ⟨w.heap.size, 4, none⟩ = some (.int .u64 u) ∧ w'.cell? ⟨w.heap.size, 5, none⟩ = some noKids ∧ w'.cell? ⟨w.heap.size, 6, none⟩ = some (.int .i64 (next : Int)) ∧ w'.cell? ⟨w.heap.size, 7, none⟩ = some (.slice none 0 0))) (by kernel_rfl) (by rw [hwd]; exact ⟨cm, PC.out _ hzd⟩) (fun inv hHeld => ?_)
  rw [hwd] at hHeld ⊢
  clear hwd e0
  refine anyT_take (i := 0) (oi := { dst := some 5, op := Op.move (Operand.tmp 0), type := 79, pos := "match.go:70", after := #[], guard := none }) (v := ?_) rfl (by kernel_rfl) (by kernel_rfl) (by kernel_rfl) (by decide) (by decide) (by kernel_rfl) (by kernel_rfl) (fun _ _ _ h => h) (Or.inl ⟨by rfl, ?_⟩) hHeld inv (fun inv => ?_)
  rotate_left
  · intro w hSw
    try dsimp only at hSw
    go_simp
    try with_reducible rfl
  simp only [Act.put, List.setIfInBounds_toArray, List.set_cons_zero, List.set_cons_succ]
  refine anyT_take (i := 1) (oi := { dst := some 6, op := Op.move (Operand.tmp 0), type := 79, pos := "match.go:70", after := #[], guard := none }) (v := ?_) rfl (by kernel_rfl) (by kernel_rfl) (by kernel_rfl) (by decide) (by decide) (by kernel_rfl) (by kernel_rfl) (fun _ _ _ h => h) (Or.inl ⟨by rfl, ?_⟩) hHeld inv (fun inv => ?_)
  rotate_left
  · intro w hSw
    try dsimp only at hSw
    go_simp
    try with_reducible rfl
  simp only [Act.put, List.setIfInBounds_toArray, List.set_cons_zero, List.set_cons_succ]
  refine anyT_take (i := 2) (oi := { dst := some 7, op := Op.nilCheck (Operand.tmp 6), type := 0, pos := "match.go:70", after := #[{ on := 1, ground := Ground.data }], guard := none }) (v := ?_) rfl (by kernel_rfl) (by kernel_rfl) (by kernel_rfl) (by decide) (by decide) (by kernel_rfl) (by kernel_rfl) (fun _ _ _ h => h) (Or.inl ⟨by rfl, ?_⟩) hHeld inv (fun inv => ?_)
  rotate_left
  · intro w hSw
    try dsimp only at hSw
    go_simp
    try with_reducible rfl
  simp only [Act.put, List.setIfInBounds_toArray, List.set_cons_zero, List.set_cons_succ]
  refine anyT_take (i := 3) (oi := { dst := some 8, op := Op.fieldAddr 84 (Operand.tmp 7) 0, type := 0, pos := "match.go:70", after := #[{ on := 2, ground := Ground.data }], guard := none }) (v := ?_) rfl (by kernel_rfl) (by kernel_rfl) (by kernel_rfl) (by decide) (by decide) (by kernel_rfl) (by kernel_rfl) (fun _ _ _ h => h) (Or.inl ⟨by rfl, ?_⟩) hHeld inv (fun inv => ?_)
  rotate_left
  · intro w hSw
    try dsimp only at hSw
    go_simp
    try with_reducible rfl
  simp only [Act.put, List.setIfInBounds_toArray, List.set_cons_zero, List.set_cons_succ]
  refine anyT_take (i := 4) (oi := { dst := some 9, op := Op.load 82 (Operand.tmp 8), type := 82, pos := "match.go:70", after := #[{ on := 3, ground := Ground.data }], guard := none }) (v := ?_) rfl (by kernel_rfl) (by kernel_rfl) (by kernel_rfl) (by decide) (by decide) (by kernel_rfl) (by kernel_rfl) (fun _ _ _ h => h) (Or.inl ⟨by rfl, ?_⟩) hHeld inv (fun inv => ?_)
  rotate_left
  · intro w hSw
    try dsimp only at hSw
    go_simp
    try with_reducible rfl
  simp only [Act.put, List.setIfInBounds_toArray, List.set_cons_zero, List.set_cons_succ]
  refine anyT_take (i := 5) (oi := { dst := some 10, op := Op.load 81 (Operand.tmp 3), type := 81, pos := "match.go:70", after := #[], guard := none }) (v := ?_) rfl (by kernel_rfl) (by kernel_rfl) (by kernel_rfl) (by decide) (by decide) (by kernel_rfl) (by kernel_rfl) (fun _ _ _ h => h) (Or.inl ⟨by rfl, ?_⟩) hHeld inv (fun inv => ?_)
  rotate_left
  · intro w hSw
    try dsimp only at hSw
    go_simp
    try with_reducible rfl
  simp only [Act.put, List.setIfInBounds_toArray, List.set_cons_zero, List.set_cons_succ]
  obtain ⟨w3, e3⟩ : ∃ w3, wd.alloc (.cells #[.int .i64 k, .int .u64 x, .int .u64 y, .int .u64 z, .int .u64 u, noKids, .int .i64 (next : Int), .slice none 0 0] 81) = w3 := ⟨_, rfl⟩
  have hb3 : Below wd.heap.size wd w3 := by rw [← e3]; exact (Below.refl _ _).alloc (Nat.le_refl _) _
  have hn3 : w3.heap[wd.heap.size]? = some (.cells #[.int .i64 k, .int .u64 x, .int .u64 y, .int .u64 z, .int .u64 u, noKids, .int .i64 (next : Int), .slice none 0 0] 81 (0, 0)) := by rw [← e3]; exact new_block _ _
  have hs3 : w3.heap.size = w.heap.size + 1 + 1 := by rw [← e3]; simp [hsd]
  have hz3 := (hb3.block w.heap.size (by omega)).trans hzd
  have hM3 := HM.out.below hb3
  have cm3 : w3.cell? ⟨m, 0, none⟩ = some pv := by rw [Lib.cell_of_heap hM3.box]; rfl
  have HM3 := hid hM3
  clear hM3
  refine anyT_next (i := 6) (o := { dst := some 11, op := Op.buildSlice 82 1 #[(0, Operand.tmp 10)], type := 82, pos := "match.go:70", after := #[{ on := 5, ground := Ground.data }], guard := none }) (by kernel_rfl) rfl (by decide) inv (fun inv K' hK => ?_)
  go_simp
  refine hK.out _ _ ⟨cm3, PC.out _ hz3⟩ ?_
  clear hK K'
  try simp only [Act.put, List.setIfInBounds_toArray, List.set_cons_zero, List.set_cons_succ]
  obtain ⟨i0, hi, hq0, hq1, hq2⟩ := info_parts info60
  refine anyT_next (i := 7) (o := { dst := some 12, op := Op.call { callee := Callee.builtin Builtin.append, args := #[Operand.tmp 9, Operand.tmp 11], argTypes := #[82, 82] }, type := 82, pos := "match.go:70", after := #[{ on := 4, ground := Ground.data }, { on := 6, ground := Ground.data }], guard := none }) (by kernel_rfl) rfl (by decide) inv (fun inv K' hK => ?_)
  simp only [Region.wanted]
  rw [if_pos trivial]
  refine wp_append_own_at (.tmp 9) (.tmp 11) 82 rfl B 81 i0 (.agg zero8) 8 96 Tryd.underlying82 hi hq0 hq1 hq2 rfl (by decide) pv P.length _ rfl HM3.out.row ⟨w.heap.size + 1, 0, none⟩ 1 1 [.int .i64 k, .int .u64 x, .int .u64 y, .int .u64 z, .int .u64 u, noKids, .int .i64 (next : Int), .slice none 0 0] rfl rfl ?c1 ?c2 ?c3 ?c4 ?c5 ?_
  case c1 =>
    intro j v hj
    rw [hsd] at hn3
    have := Lib.cell_of_heap hn3 j
    rw [show (⟨w.heap.size + 1, 0, none⟩ : Addr).add j = ⟨w.heap.size + 1, j, none⟩ by simp [Addr.add]; omega]
    rw [this, ← hj]
    simp
  case c2 => intro v hv; simp at hv; rcases hv with rfl | rfl | rfl | rfl | rfl | rfl | rfl | rfl <;> rfl
  case c3 => unfold maxLen; omega
  case c4 => omega
  case c5 => omega
  intro v' w4 hown' hgrow hnil hat
  have hm4 := (hgrow.block m (by omega) (fun e => HM3.out.apm e.symm)).trans HM3.out.box
  have hz4 := (hgrow.block w.heap.size (by omega) (fun e => by have := (HH.out.row.lt _ e.symm).2; omega)).trans hz3
  have cm4 : w4.cell? ⟨m, 0, none⟩ = some pv := by rw [Lib.cell_of_heap hm4]; rfl
  have fm4 : w4.frozen? ⟨m, 0, none⟩ = false := Lib.frozen_of_heap hm4 0
  obtain ⟨vo, vc, rfl⟩ : ∃ vo vc, v' = .slice vo (P.length + 1) vc := by
    rcases hown'.2 with ⟨_, h0⟩ | ⟨g, cap, cur, rfl, _⟩
    · omega
    · exact ⟨_, _, rfl⟩
  have HF := hid (HM3.out.pushed (pl := ⟨b, next, []⟩) rfl (by rw [HPC.out]; exact hown') hgrow hat)
  have hml4 : m < w4.heap.size := (Array.getElem?_eq_some_iff.1 hm4).1
  have cm5 : (w4.setCell ⟨m, 0, none⟩ (.slice vo (P.length + 1) vc)).cell? ⟨m, 0, none⟩ = some (.slice vo (P.length + 1) vc) := by rw [Lib.cell_of_heap HF.out.box]; rfl
  obtain ⟨w5, e5⟩ : ∃ w5, w4.setCell ⟨m, 0, none⟩ (.slice vo (P.length + 1) vc) = w5 := ⟨_, rfl⟩
  have hl5 : LF w w5 (Own m pv AS) (Own m (.slice vo (P.length + 1) vc) (AS ++ [.slice none 0 0])) := by
    rw [← e5]
    refine ⟨hgrow.os.trans (hb3.os.trans hbd.os), hgrow.tape.trans (hb3.tape.trans hbd.tape), hgrow.output.trans (hb3.output.trans hbd.output), by have := hgrow.size; simp; omega, fun g hg hO => ?_, fun g hg => ?_⟩
    · exact (Below.heap_setCell w4 ⟨m, 0, none⟩ _ g (fun e => hO (.inl e))).trans ((hgrow.block g (by omega) (fun e => hO (.inr (.inl e.symm)))).trans ((hb3.block g (by omega)).trans (hbd.block g hg)))
    · rcases hg with h1 | h1 | ⟨a, ha, h1⟩
      · exact .inl (.inl h1)
      · rcases hat with e | e
        · exact .inl (.inr (.inl (by rw [← e]; exact h1)))
        · rw [e] at h1; obtain rfl := Option.some.inj h1; exact .inr (by omega)
      · simp at ha
        rcases ha with ha | rfl
        · exact .inl (.inr (.inr ⟨a, ha, h1⟩))
        · cases h1
  rw [e5] at cm5
  have HF5 : Hid (MRep B m w5 (.slice vo (P.length + 1) vc) (AS ++ [.slice none 0 0]) (P ++ [⟨b, next, []⟩])) := by rw [← e5]; exact HF.out
  clear hown' hgrow hnil hat HF
  refine hK.out _ _ ⟨cm4, PC.out _ hz4⟩ ?_
  clear hK K'
  try simp only [Act.put, List.setIfInBounds_toArray, List.set_cons_zero, List.set_cons_succ]
  refine anyT_take (i := 8) (oi := { dst := some 13, op := Op.nilCheck (Operand.tmp 5), type := 0, pos := "match.go:70", after := #[{ on := 0, ground := Ground.data }, { on := 0, ground := Ground.phase }, { on := 1, ground := Ground.phase }, { on := 2, ground := Ground.phase }, { on := 3, ground := Ground.phase }, { on := 4, ground := Ground.phase }, { on := 5, ground := Ground.phase }, { on := 6, ground := Ground.phase }, { on := 7, ground := Ground.phase }], guard := none }) (v := ?_) rfl (by kernel_rfl) (by kernel_rfl) (by kernel_rfl) (by decide) (by decide) (by kernel_rfl) (by kernel_rfl) (fun _ _ _ h => h) (Or.inl ⟨by rfl, ?_⟩) ⟨cm4, PC.out _ hz4⟩ inv (fun inv => ?_)
  rotate_left
  · intro w hSw
    try dsimp only at hSw
    go_simp
    try with_reducible rfl
  simp only [Act.put, List.setIfInBounds_toArray, List.set_cons_zero, List.set_cons_succ]
  refine anyT_take (i := 9) (oi := { dst := some 14, op := Op.fieldAddr 84 (Operand.tmp 13) 0, type := 0, pos := "match.go:70", after := #[{ on := 8, ground := Ground.data }, { on := 0, ground := Ground.phase }, { on := 1, ground := Ground.phase }, { on := 2, ground := Ground.phase }, { on := 3, ground := Ground.phase }, { on := 4, ground := Ground.phase }, { on := 5, ground := Ground.phase }, { on := 6, ground := Ground.phase }, { on := 7, ground := Ground.phase }], guard := none }) (v := ?_) rfl (by kernel_rfl) (by kernel_rfl) (by kernel_rfl) (by decide) (by decide) (by kernel_rfl) (by kernel_rfl) (fun _ _ _ h => h) (Or.inl ⟨by rfl, ?_⟩) ⟨cm4, PC.out _ hz4⟩ inv (fun inv => ?_)
  rotate_left
  · intro w hSw
    try dsimp only at hSw
    go_simp
    try with_reducible rfl
  simp only [Act.put, List.setIfInBounds_toArray, List.set_cons_zero, List.set_cons_succ]
  refine anyT_one (i := 10) (o := { dst := none, op := Op.store 82 (Operand.tmp 14) (Operand.tmp 12), type := 0, pos := "match.go:70", after := #[{ on := 9, ground := Ground.data }, { on := 7, ground := Ground.data }, { on := 7, ground := Ground.chain }, { on := 0, ground := Ground.phase }, { on := 1, ground := Ground.phase }, { on := 2, ground := Ground.phase }, { on := 3, ground := Ground.phase }, { on := 4, ground := Ground.phase }, { on := 5, ground := Ground.phase }, { on := 6, ground := Ground.phase }, { on := 7, ground := Ground.phase }], guard := none }) (by kernel_rfl) rfl (fun K' hK => ?_)
  go_simp
  refine hK.out _ _ (fun h => absurd h (by decide)) ?_
  clear hK K'
  try simp only [Act.put, List.setIfInBounds_toArray, List.set_cons_zero, List.set_cons_succ]
  refine anyT_done (by kernel_rfl) ?_ _
  clear cm4 fm4 hm4
  go_wp2_with fail
  go_ret
  exact ⟨_, rfl, HF5.out, hl5⟩

end Go.Proofs.YtochckefnjobhaaDoor.RM

/- regex's matcher: what a place tells, told anew. -/
namespace Go.Proofs.YtochckefnjobhaaDoor.RM
open Go Go.RowKit Go.Lib
open X3 (RX Pl)
set_option linter.unusedVariables false
set_option linter.unusedSimpArgs false

theorem owns_set {w : World} {B : Nat} {e : TypeId} {sz : Nat} {pg cap n : Nat} {xs : List Value} (h : w.ownsRow B e sz (.slice (some ⟨pg, 0, none⟩) n cap) n xs) (j : Nat) (u : Value) :
    (w.setCell ⟨pg, j, none⟩ u).ownsRow B e sz (.slice (some ⟨pg, 0, none⟩) n cap) n (xs.set j u) := by
  refine ⟨by rw [List.length_set]; exact h.1, ?_⟩
  rcases h.2 with ⟨hn, _⟩ | ⟨g, cap', cur, hv, hB, hg, hc, hcm, hs, ht⟩
  · cases hn
  · injection hv with h1 h2 h3
    have h1' : pg = g := by injection h1 with h1; injection h1
    subst h1' h3
    refine .inr ⟨pg, cap, cur.setIfInBounds j u, rfl, hB, heap_setCell_same w pg j cur e u hg, hc, hcm, by simp [hs], ?_⟩
    rw [← ht, Array.toList_setIfInBounds, List.take_set]

theorem cellsP_set : ∀ (P : List Pl) (AS : List Value) (k : Nat) (l : List Nat) (av : Value), AS.length = P.length → k < P.length →
    cellsP (P.modify k fun pl => { pl with also := l }) (AS.set k av) = (cellsP P AS).set (k * 8 + 7) av
  | p :: P, a :: AS, 0, l, av, h, hk => by
    obtain ⟨k', x, y, z, u, hbc, -⟩ := bcs_shape p.b
    simp [cellsP, plc, hbc]
  | p :: P, a :: AS, k + 1, l, av, h, hk => by
    simp only [List.modify_succ_cons, List.set_cons_succ, cellsP]
    rw [cellsP_set P AS k l av (by simpa using h) (by simpa using hk), List.set_append_right _ _ (by rw [plc_len]; omega), plc_len]
    congr 2
    omega
  | [], _, k, l, av, h, hk => by simp at hk
  | p :: P, [], _, _, _, h, _ => by simp at h

theorem MRep.restored {B m : Nat} {w1 w2 : World} {pg n cap k : Nat} {av0 av : Value} {AS : List Value} {P : List Pl} {l : List Nat} (h : MRep B m w1 (.slice (some ⟨pg, 0, none⟩) n cap) AS P)
    (hk : AS[k]? = some av0) (hg : w1.grownBy w2 av0.ownBlock) (hown : w2.ownsRow B 3 1 av l.length (l.map fun (q : Nat) => Value.int .i64 (q : Int)))
    (hat : av.ownBlock = av0.ownBlock ∨ ∃ g, av.ownBlock = some g ∧ w1.heap.size ≤ g) :
    MRep B m (w2.setCell ⟨pg, k * 8 + 7, none⟩ av) (.slice (some ⟨pg, 0, none⟩) n cap) (AS.set k av) (P.modify k fun pl => { pl with also := l }) := by
  have hkl : k < P.length := by rw [← h.lenA]; exact (List.getElem?_eq_some_iff.1 hk).1
  have hn : n = P.length := by
    rcases h.row.2 with ⟨hv, _⟩ | ⟨g, cap', cur, hv, _⟩
    · cases hv
    · injection hv
  subst hn
  have hpgl : pg < w1.heap.size := (h.row.lt pg rfl).2
  have hml : m < w1.heap.size := (Array.getElem?_eq_some_iff.1 h.box).1
  have hpm : pg ≠ m := fun e => h.apm (congrArg some e)
  have h0 : ∀ g, av0.ownBlock = some g → g ≠ m ∧ g ≠ pg := fun g hgo => ⟨(h.ap1 k av0 g hk hgo).1, fun e => (h.ap1 k av0 g hk hgo).2 (congrArg some e.symm)⟩
  have hpb : w2.heap[pg]? = w1.heap[pg]? := hg.block pg hpgl (fun e => (h0 pg e.symm).2 rfl)
  have hmb : w2.heap[m]? = w1.heap[m]? := hg.block m hml (fun e => (h0 m e.symm).1 rfl)
  have hav : ∀ g, av.ownBlock = some g → g ≠ m ∧ g ≠ pg := by
    intro g hgo
    rcases hat with e | ⟨g', e, hl⟩
    · exact h0 g (by rw [← e]; exact hgo)
    · rw [e] at hgo; obtain rfl := Option.some.inj hgo; exact ⟨by omega, by omega⟩
  have hrow : w2.ownsRow B 81 8 (.slice (some ⟨pg, 0, none⟩) P.length cap) P.length (cellsP P AS) := owns_kept h.row (fun g hgo => by obtain rfl := Option.some.inj hgo; exact hpb)
  have hset : ∀ (i : Nat) (a : Value), (AS.set k av)[i]? = some a → (i = k ∧ a = av) ∨ (i ≠ k ∧ AS[i]? = some a) := by
    intro i a hi
    by_cases e : i = k
    · subst e
      rw [List.getElem?_set_self (by rw [h.lenA]; exact hkl)] at hi
      exact .inl ⟨rfl, (Option.some.inj hi).symm⟩
    · rw [List.getElem?_set_ne (Ne.symm e)] at hi
      exact .inr ⟨e, hi⟩
  have hpi : ∀ (i : Nat) (a : Value), AS[i]? = some a → ∃ pl, P[i]? = some pl := fun i a hi => ⟨_, List.getElem?_eq_getElem (by rw [← h.lenA]; exact (List.getElem?_eq_some_iff.1 hi).1)⟩
  refine ⟨?_, h.mB, ?_, by simp [h.lenA], ?_, ?_, ?_, h.apm⟩
  · exact (Below.heap_setCell w2 ⟨pg, k * 8 + 7, none⟩ av m (Ne.symm hpm)).trans (hmb.trans h.box)
  · rw [cellsP_set P AS k l av h.lenA hkl]
    have : (P.modify k fun pl => { pl with also := l }).length = P.length := by simp
    rw [this]
    exact owns_set hrow _ _
  · intro i pl a hp hi
    rcases hset i a hi with ⟨rfl, rfl⟩ | ⟨hne, hi2⟩
    · obtain ⟨pl0, hp0⟩ := hpi i av0 hk
      rw [List.getElem?_modify, hp0] at hp
      simp at hp
      subst hp
      exact owns_kept hown (fun g hgo => Below.heap_setCell w2 ⟨pg, i * 8 + 7, none⟩ a g (hav g hgo).2)
    · have hp2 : P[i]? = some pl := by
        rw [List.getElem?_modify] at hp
        simp only [if_neg (Ne.symm hne)] at hp
        cases hP : P[i]? with
        | none => rw [hP] at hp; cases hp
        | some y => rw [hP] at hp; simpa using hp
      have ho := h.also i pl a hp2 hi2
      refine owns_kept ho (fun g hgo => ?_)
      have h1 := h.ap1 i a g hi2 hgo
      refine (Below.heap_setCell w2 ⟨pg, k * 8 + 7, none⟩ av g (fun e => h1.2 (congrArg some e.symm))).trans (hg.block g (ho.lt g hgo).2 (fun e => hne (h.ap2 i k a av0 g hi2 hk hgo e.symm)))
  · intro i a g hi hgo
    rcases hset i a hi with ⟨rfl, rfl⟩ | ⟨hne, hi2⟩
    · exact ⟨(hav g hgo).1, fun e => (hav g hgo).2 (Option.some.inj e).symm⟩
    · exact h.ap1 i a g hi2 hgo
  · intro i j a c g hi hj ha hc
    have key : ∀ (i : Nat) (a : Value), i ≠ k → AS[i]? = some a → a.ownBlock = some g → av.ownBlock = some g → False := by
      intro i a hne hi2 ha hv
      rcases hat with e | ⟨g', e, hl⟩
      · exact hne (h.ap2 i k a av0 g hi2 hk ha (by rw [← e]; exact hv))
      · rw [e] at hv; obtain rfl := Option.some.inj hv
        obtain ⟨pl, hp⟩ := hpi i a hi2
        have := ((h.also i pl a hp hi2).lt g' ha).2
        omega
    rcases hset i a hi with ⟨rfl, rfl⟩ | ⟨hne, hi2⟩
    · rcases hset j c hj with ⟨rfl, rfl⟩ | ⟨hne2, hj2⟩
      · rfl
      · exact (key j c hne2 hj2 hc ha).elim
    · rcases hset j c hj with ⟨rfl, rfl⟩ | ⟨hne2, hj2⟩
      · exact (key i a hne hi2 ha hc).elim
      · exact h.ap2 i j a c g hi2 hj2 ha hc

theorem keepS_B {S : Nat → Prop} {B : Nat} {w w' : World} (hS : ∀ g, S g → g < B) (h : Below B w w') : KeepS S w w' := ⟨h.size, fun g hg _ => h.block g (hS g hg)⟩

end Go.Proofs.YtochckefnjobhaaDoor.RM

/- regex's matcher: lay. -/
namespace Go.Proofs.YtochckefnjobhaaDoor.RM
open Go Go.RowKit Go.Lib
open X3 (RX Pl)
set_option linter.unusedVariables false
set_option linter.unusedSimpArgs false

theorem LF.restored {B m : Nat} {w1 w2 : World} {pg n cap k j : Nat} {av0 av : Value} {AS : List Value} {P : List Pl} (h : MRep B m w1 (.slice (some ⟨pg, 0, none⟩) n cap) AS P)
    (hk : AS[k]? = some av0) (hg : w1.grownBy w2 av0.ownBlock) (hat : av.ownBlock = av0.ownBlock ∨ ∃ g, av.ownBlock = some g ∧ w1.heap.size ≤ g) :
    LF w1 (w2.setCell ⟨pg, j, none⟩ av) (Own m (.slice (some ⟨pg, 0, none⟩) n cap) AS) (Own m (.slice (some ⟨pg, 0, none⟩) n cap) (AS.set k av)) := by
  refine ⟨hg.os, hg.tape, hg.output, by have := hg.size; simpa using this, fun g hgl hO => ?_, fun g ho => ?_⟩
  · exact (Below.heap_setCell w2 ⟨pg, j, none⟩ av g (fun e => hO (.inr (.inl (congrArg some e.symm))))).trans (hg.block g hgl (fun e => hO (.inr (.inr ⟨av0, List.mem_iff_getElem?.2 ⟨k, hk⟩, e.symm⟩))))
  · rcases ho with h1 | h1 | ⟨a, ha, h1⟩
    · exact .inl (.inl h1)
    · exact .inl (.inr (.inl h1))
    · rcases List.mem_or_eq_of_mem_set ha with ha | rfl
      · exact .inl (.inr (.inr ⟨a, ha, h1⟩))
      · rcases hat with e | ⟨g', e, hl⟩
        · exact .inl (.inr (.inr ⟨av0, List.mem_iff_getElem?.2 ⟨k, hk⟩, by rw [← e]; exact h1⟩))
        · rw [e] at h1; obtain rfl := Option.some.inj h1; exact .inr hl

/-- What lay comes to. -/
def LayP (B m : Nat) (w : World) (pv : Value) (AS : List Value) (r : Nat × List Pl) (e : Ending) (w' : World) : Prop :=
  ∃ pv' AS', e = .returned (.int .i64 (r.1 : Nat)) ∧ MRep B m w' pv' AS' r.2 ∧ LF w w' (Own m pv AS) (Own m pv' AS')

theorem lay_empty (B m b : Nat) (w : World) (pv : Value) (AS : List Value) (P : List Pl) (hM : MRep B m w pv AS P) :
    Calls Tryd.prog 36 #[.pointer (some ⟨m, 0, none⟩), nodeV 0 0 0 0 0 noKids, .int .i64 (b : Int)] w (LayP B m w pv AS (b, P)) := by
  have HM := hid hM
  clear hM
  go_enter Tryd.func36, Tryd.ntmps36
  go_wp2_with fail
  go_ret
  exact ⟨pv, AS, rfl, HM.out.below ((Below.refl _ _).alloc (Nat.le_refl _) _), LF.ofBelow ((Below.refl _ _).alloc (Nat.le_refl _) _)⟩

set_option maxRecDepth 100000 in
set_option maxHeartbeats 2000000 in
theorem lay_bytes (B m b : Nat) (w : World) (pv : Value) (AS : List Value) (P : List Pl) (x y z u : Nat) (hM : MRep B m w pv AS P) (hP : P.length ≤ 1000000) (hBw : B ≤ w.heap.size) :
    Calls Tryd.prog 36 #[.pointer (some ⟨m, 0, none⟩), nodeV 1 x y z u noKids, .int .i64 (b : Int)] w (LayP B m w pv AS (P.length, P ++ [⟨.bytes x y z u, b, []⟩])) := by
  obtain ⟨w0, e0⟩ : ∃ w0, w.alloc (.cells #[.int .i64 1, .int .u64 (x : Int), .int .u64 (y : Int), .int .u64 (z : Int), .int .u64 (u : Int), noKids] 38) = w0 := ⟨_, rfl⟩
  have hb0 : Below w.heap.size w w0 := by rw [← e0]; exact (Below.refl _ _).alloc (Nat.le_refl _) _
  have hz0 : w0.heap[w.heap.size]? = some (.cells #[.int .i64 1, .int .u64 (x : Int), .int .u64 (y : Int), .int .u64 (z : Int), .int .u64 (u : Int), noKids] 38 (0, 0)) := by rw [← e0]; exact new_block _ _
  have hs0 : w0.heap.size = w.heap.size + 1 := by rw [← e0]; simp
  have KA := hid (add_any B m w0 pv AS P (.bytes x y z u) b (hM.below hb0) hP (by omega))
  obtain ⟨p0, p1, p2, p3, p4, p5⟩ := cells6 hz0
  have HM := hid hM
  clear hM
  go_enter Tryd.func36, Tryd.ntmps36
  go_wp2_with fail
  refine KA.out.mono ?_
  rintro e w1 ⟨pv', rfl, hM', hl⟩
  have HM' := hid hM'
  have HL := hid hl
  clear hM' hl
  go_wp2_with fail
  go_ret
  exact ⟨pv', _, rfl, HM'.out, (LF.ofBelow hb0).trans HL.out⟩

set_option maxRecDepth 100000 in
set_option maxHeartbeats 4000000 in
theorem lay_cat (S : Nat → Prop) (B m b : Nat) (hS : ∀ g, S g → g < B) (w : World) (pv : Value) (AS : List Value) (P : List Pl) (l : List RX) (g cap : Nat) (hl : RepLS S w l g 0) (hSg : S g) (hgw : g < w.heap.size) (hcap : l.length ≤ cap) (hM : MRep B m w pv AS P) (hb : b < P.length) (hBd : X3.Bd P P.length) (hP : P.length + X3.sizeL l ≤ 100000) (hmu : X3.muL P + 4 * X3.sizeL l ≤ 1000000) (hBw : B ≤ w.heap.size)
    (ih : ∀ (k : Nat) (hk : k < l.length) (w : World) (v : Value) (b : Nat) (pv : Value) (AS : List Value) (P : List Pl), RepS S w l[k] v → MRep B m w pv AS P → b < P.length → X3.Bd P P.length → P.length + l[k].size ≤ 100000 → X3.muL P + 4 * l[k].size ≤ 1000000 → B ≤ w.heap.size → Calls Tryd.prog 36 #[.pointer (some ⟨m, 0, none⟩), v, .int .i64 (b : Int)] w (LayP B m w pv AS (X3.layX l[k] b P))) :
    Calls Tryd.prog 36 #[.pointer (some ⟨m, 0, none⟩), nodeV 2 0 0 0 0 (.slice (some ⟨g, 0, none⟩) l.length cap), .int .i64 (b : Int)] w (LayP B m w pv AS (X3.layCat l b P)) := by
  have IH := hid ih
  have HL := hid hl
  clear ih hl
  have hll : l.length ≤ 100000 := by have := length_le_sizeL l; omega
  obtain ⟨w0, e0⟩ : ∃ w0, w.alloc (.cells #[.int .i64 2, .int .u64 0, .int .u64 0, .int .u64 0, .int .u64 0, .slice (some ⟨g, 0, none⟩) l.length cap] 38) = w0 := ⟨_, rfl⟩
  have hb0 : Below w.heap.size w w0 := by rw [← e0]; exact (Below.refl _ _).alloc (Nat.le_refl _) _
  have hz0 : w0.heap[w.heap.size]? = some (.cells #[.int .i64 2, .int .u64 0, .int .u64 0, .int .u64 0, .int .u64 0, .slice (some ⟨g, 0, none⟩) l.length cap] 38 (0, 0)) := by rw [← e0]; exact new_block _ _
  have hs0 : w0.heap.size = w.heap.size + 1 := by rw [← e0]; simp
  have HM0 := hid (hM.below hb0)
  have HO := hid (fun (g : Nat) (ho : Own m pv AS g) => hM.own_ge ho)
  have HM := hid hM
  have HZ := hid hz0
  obtain ⟨p0, p1, p2, p3, p4, p5⟩ := cells6 hz0
  have hgB := hS g hSg
  have HBD := hid hBd
  have HSND := hid (fun (k : Nat) => X3.layCat_sound (l.drop k) b P hBd hb)
  clear hM hz0 hBd
  obtain ⟨RR, HRR⟩ : ∃ RR, Hid (RR = X3.layCat l b P) := ⟨_, hid rfl⟩
  rw [← HRR.out]
  go_enter Tryd.func36, Tryd.ntmps36
  go_wp2_with fail
  clear p0 p1 p2 p3 p4 p5 e0
  go_loopw [2, 7] (fun t2 t7 wr => ∃ (k : Nat) (pv' : Value) (AS' : List Value), k ≤ l.length ∧ t7 = .int .i64 ((k : Int) - 1) ∧ t2 = .int .i64 (((X3.layCat (l.drop k) b P).1 : Nat) : Int) ∧ MRep B m wr pv' AS' (X3.layCat (l.drop k) b P).2 ∧ LF w0 wr (Own m pv AS) (Own m pv' AS')) (fun _ t7 _ => (RowKit.intOf t7 + 1).toNat)
  case atStart => exact ⟨l.length, pv, AS, Nat.le_refl _, rfl, by rw [List.drop_length]; rfl, by rw [List.drop_length]; exact HM0.out, LF.ofBelow (Below.refl _ _)⟩
  case round =>
    obtain ⟨k, pv', AS', hk, rfl, rfl, hMr, hF⟩ := hrel
    have hBr : Below B w0 wr := hF.below HM0.out (by omega)
    have hsz := hF.size
    have hbox := (hF.same w.heap.size (by omega) (fun ho => by have := (HO.out _ ho).2; omega)).trans HZ.out
    obtain ⟨p0, p1, p2, p3, p4, p5⟩ := cells6 hbox
    cases k with
    | zero =>
      have h1 : ¬ (0 : Int) ≤ ((0 : Nat) : Int) - 1 := by decide
      rw [List.drop_zero, ← HRR.out] at hMr
      have hR1 : (X3.layCat (l.drop 0) b P).1 = RR.1 := by rw [List.drop_zero, HRR.out]
      simp only [hR1]
      have HMr := hid hMr
      have HF := hid hF
      clear hMr hF hbox p0 p1 p2 p3 p4 p5 hR1
      go_wp2_with fail
      go_ret
      exact ⟨pv', AS', rfl, HMr.out, (LF.ofBelow hb0).trans HF.out⟩
    | succ k =>
      have hlt : k < l.length := by omega
      obtain ⟨kd', x', y', z', u', kv', hR, c0, c1, c2, c3, c4, c5⟩ := RepLS.at_ (HL.out.kept (keepS_B hS ((Below.refl B w).trans ((hb0.mono hBw).trans hBr))) hSg hgw) k hlt
      rw [Nat.zero_add] at c0 c1 c2 c3 c4 c5
      obtain ⟨ko, kn, kc, rfl⟩ := hR.slice
      have hsnd := HSND.out (k + 1)
      have hsl := X3.sizeL_le_drop l k hlt
      have KI := hid (IH.out k hlt wr _ (X3.layCat (l.drop (k + 1)) b P).1 pv' AS' (X3.layCat (l.drop (k + 1)) b P).2 hR hMr hsnd.2.1 hsnd.1 (by have := hsnd.2.2.1; omega) (by have := hsnd.2.2.2; omega) (by omega))
      have HST : Hid (X3.layX l[k] (X3.layCat (l.drop (k + 1)) b P).1 (X3.layCat (l.drop (k + 1)) b P).2 = X3.layCat (l.drop k) b P) := hid (by rw [List.drop_eq_getElem_cons hlt]; rfl)
      rw [HST.out] at KI
      have ek : (((k + 1 : Nat) : Int) - 1) = (k : Int) := by omega
      have h1 : (0 : Int) ≤ (k : Int) := by omega
      have h2 : (k : Int) < (l.length : Int) := by omega
      have HF := hid hF
      simp only [ek]
      clear hMr hR hF hsnd
      generalize (X3.layCat (l.drop (k + 1)) b P).1 = bb at *
      go_wp2_with fail
      refine KI.out.mono ?_
      rintro e w2 ⟨pv2, AS2, rfl, hM2, hF2⟩
      have HM2 := hid hM2
      have HF2 := hid hF2
      clear hM2 hF2
      go_wp2_with fail
      refine ⟨⟨k, pv2, AS2, by omega, rfl, rfl, HM2.out, HF.out.trans HF2.out⟩, ?_⟩
      show ((k : Int) - 1 + 1).toNat < ((k : Int) + 1).toNat
      omega

theorem MRep.cellat {B m : Nat} {w : World} {pg n cap : Nat} {AS : List Value} {P : List Pl} (h : MRep B m w (.slice (some ⟨pg, 0, none⟩) n cap) AS P) {k : Nat} {pl : Pl} {av : Value} (hp : P[k]? = some pl) (hk : AS[k]? = some av) :
    (∀ j, j < 8 → w.cell? ⟨pg, k * 8 + j, none⟩ = (plc pl av)[j]?) ∧ (∀ j, w.frozen? ⟨pg, j, none⟩ = false) ∧ n = P.length ∧ n ≤ cap := by
  have hkl : k < P.length := (List.getElem?_eq_some_iff.1 hp).1
  rcases h.row.2 with ⟨hv, _⟩ | ⟨g, cap', cur, hv, hB, hg, hc, hcm, hs, ht⟩
  · cases hv
  · injection hv with h1 h2 h3
    have h1' : pg = g := by injection h1 with h1; injection h1
    subst h1' h2 h3
    refine ⟨fun j hj => ?_, fun j => Lib.frozen_of_heap hg j, rfl, hc⟩
    rw [Lib.cell_of_heap hg, ← cellsP_at P AS k pl av h.lenA hp hk j hj, ← ht, List.getElem?_take, if_pos (by omega), Array.getElem?_toList]

theorem plc7 (pl : Pl) (av : Value) : (plc pl av)[7]? = some av := by
  obtain ⟨k, x, y, z, u, h, -⟩ := bcs_shape pl.b
  simp [plc, h]
theorem MRep.sl {B m : Nat} {w : World} {pv : Value} {AS : List Value} {P : List Pl} (h : MRep B m w pv AS P) (h0 : 0 < P.length) : ∃ pg cap, pv = .slice (some ⟨pg, 0, none⟩) P.length cap := by
  rcases h.row.2 with ⟨_, h3⟩ | ⟨g, cap', cur, hv, _⟩
  · omega
  · exact ⟨g, cap', hv⟩




set_option maxHeartbeats 2000000 in
/-- A star's kid. -/
theorem kid_any {S : Nat → Prop} {w : World} {r : X3.RX} {v : Value} (h : RepS S w (.star r) v) : ∃ vk, RepS S w r vk ∧
    Calls Tryd.prog 56 #[v] w fun e w' => e = .returned vk ∧ Below w.heap.size w w' := by
  cases h with
  | star _ g cap hl hc hg hw =>
    obtain ⟨ka, kx, ky, kz, ku, kv, hR, c0, c1, c2, c3, c4, c5⟩ := RepLS.at_ hl 0 (by simp)
    obtain ⟨ko, kn, kc, rfl⟩ := hR.slice
    refine ⟨_, hR, ?_⟩
    clear hR hl
    simp only [Nat.zero_add, Nat.zero_mul] at c0 c1 c2 c3 c4 c5
    obtain ⟨w0, e0⟩ : ∃ w0, (w.alloc (.cells #[.int .i64 4, .int .u64 0, .int .u64 0, .int .u64 0, .int .u64 0, .slice (some ⟨g, 0, none⟩) 1 cap] 38)).alloc (.cells zero6 38) = w0 := ⟨_, rfl⟩
    have hb0 : Below w.heap.size w w0 := by rw [← e0]; exact below_two _ _ _
    have hz0 : w0.heap[w.heap.size + 1]? = some (.cells zero6 38 (0, 0)) := by rw [← e0]; exact new_block2 _ _ _
    have hv0 : w0.heap[w.heap.size]? = some (.cells #[.int .i64 4, .int .u64 0, .int .u64 0, .int .u64 0, .int .u64 0, .slice (some ⟨g, 0, none⟩) 1 cap] 38 (0, 0)) := by rw [← e0]; exact (Below.heap_alloc _ _ _ (by simp)).trans (new_block _ _)
    have hs0 : w0.heap.size = w.heap.size + 1 + 1 := by rw [← e0]; simp
    have e : ∀ q, w0.cell? ⟨g, q, none⟩ = w.cell? ⟨g, q, none⟩ := fun q => World.cell?_of_block (hb0.block g hw)
    rw [← e] at c0 c1 c2 c3 c4 c5
    unfold zero6 at e0 hz0
    obtain ⟨p0, p1, p2, p3, p4, p5⟩ := cells6 hv0
    obtain ⟨n0, n1, n2, n3, n4, n5⟩ := cells6 hz0
    obtain ⟨f0, f1, f2, f3, f4, f5⟩ := frozen6 hz0
    obtain ⟨w8, e8, hz8, hg8, hs8⟩ := six hz0 (.int .i64 ka) (.int .u64 kx) (.int .u64 ky) (.int .u64 kz) (.int .u64 ku) (.slice ko kn kc)
    go_enter Tryd.func56, Tryd.ntmps56
    go_wp2_with fail
    obtain ⟨y0, y1, y2, y3, y4, y5⟩ := cells6 hz8
    exact bodyPost_ret (v := nodeV ka kx ky kz ku (.slice ko kn kc)) (by simp [results, Tryd.results56, go_sem, y0, y1, y2, y3, y4, y5]) rfl ⟨rfl, below_fresh hb0 (by omega) (by omega) hg8⟩

set_option maxRecDepth 100000 in
set_option maxHeartbeats 4000000 in
theorem lay_star (S : Nat → Prop) (B m b : Nat) (hS : ∀ g, S g → g < B) (w : World) (pv : Value) (AS : List Value) (P : List Pl) (r : RX) (kv : Value) (hR : RepS S w (.star r) (nodeV 4 0 0 0 0 kv)) (hM : MRep B m w pv AS P) (hb : b < P.length) (hBd : X3.Bd P P.length) (hP : P.length + (1 + r.size) ≤ 100000) (hmu : X3.muL P + 4 * (1 + r.size) ≤ 1000000) (hBw : B ≤ w.heap.size)
    (ih : ∀ (w : World) (v : Value) (b : Nat) (pv : Value) (AS : List Value) (P : List Pl), RepS S w r v → MRep B m w pv AS P → b < P.length → X3.Bd P P.length → P.length + r.size ≤ 100000 → X3.muL P + 4 * r.size ≤ 1000000 → B ≤ w.heap.size → Calls Tryd.prog 36 #[.pointer (some ⟨m, 0, none⟩), v, .int .i64 (b : Int)] w (LayP B m w pv AS (X3.layX r b P))) :
    Calls Tryd.prog 36 #[.pointer (some ⟨m, 0, none⟩), nodeV 4 0 0 0 0 kv, .int .i64 (b : Int)] w (LayP B m w pv AS (X3.layX (.star r) b P)) := by
  have IH := hid ih
  clear ih
  obtain ⟨ko, kn, kc, rfl⟩ := hR.slice
  obtain ⟨w0, e0⟩ : ∃ w0, w.alloc (.cells #[.int .i64 4, .int .u64 0, .int .u64 0, .int .u64 0, .int .u64 0, .slice ko kn kc] 38) = w0 := ⟨_, rfl⟩
  have hb0 : Below w.heap.size w w0 := by rw [← e0]; exact (Below.refl _ _).alloc (Nat.le_refl _) _
  have hz0 : w0.heap[w.heap.size]? = some (.cells #[.int .i64 4, .int .u64 0, .int .u64 0, .int .u64 0, .int .u64 0, .slice ko kn kc] 38 (0, 0)) := by rw [← e0]; exact new_block _ _
  have hs0 : w0.heap.size = w.heap.size + 1 := by rw [← e0]; simp
  have HM0 := hid (hM.below hb0)
  have HO := hid (fun (g : Nat) (ho : Own m pv AS g) => hM.own_ge ho)
  have KA := hid (add_any B m w0 pv AS P .empty 0 (hM.below hb0) (by omega) (by omega))
  have HR := hid hR
  have HBD := hid hBd
  have HZ := hid hz0
  obtain ⟨p0, p1, p2, p3, p4, p5⟩ := cells6 hz0
  clear hM hR hBd hz0
  obtain ⟨RR, HRR⟩ : ∃ RR, Hid (RR = X3.layX (.star r) b P) := ⟨_, hid rfl⟩
  rw [← HRR.out]
  go_enter Tryd.func36, Tryd.ntmps36
  go_wp2_with fail
  refine KA.out.mono ?_
  rintro e w1 ⟨pv1, rfl, hM1, hF1⟩
  have hsz1 := hF1.size
  have hbox := (hF1.same w.heap.size (by omega) (fun ho => by have := (HO.out _ ho).2; omega)).trans HZ.out
  have hB1 : Below B w w1 := (hb0.mono hBw).trans (hF1.below HM0.out (by omega))
  obtain ⟨vk, hRk, hK⟩ := kid_any (HR.out.kept (keepS_B hS hB1))
  have HK := hid hK
  have HRk := hid hRk
  have HM1 := hid hM1
  have HF1 := hid hF1
  clear p0 p1 p2 p3 p4 p5 hM1 hF1 hRk hK
  obtain ⟨p0, p1, p2, p3, p4, p5⟩ := cells6 hbox
  clear hbox
  go_wp2_with fail
  refine HK.out.mono ?_
  rintro e w2 ⟨rfl, hb2⟩
  have hs2 := hb2.size
  have hlP : (P ++ [X3.none_]).length = P.length + 1 := by simp
  have hBd1 : X3.Bd (P ++ [X3.none_]) (P ++ [X3.none_]).length := (HBD.out.mono (by simp)).app (by simp [X3.none_]) (by simp [X3.none_])
  have KI := hid (IH.out w2 _ P.length pv1 _ (P ++ [X3.none_]) (HRk.out.kept (keepS_below hb2)) (HM1.out.below hb2) (by omega) hBd1 (by omega) (by rw [X3.muL_app]; simp [X3.none_]; omega) (by omega))
  have HM2 := hid (HM1.out.below hb2)
  have HSND := hid (X3.lay_sound r P.length (P ++ [X3.none_]) hBd1 (by omega))
  have HKEEP := hid (X3.lay_keep r P.length (P ++ [X3.none_]))
  have HRX : Hid (RR = (P.length, X3.setAlso (X3.layX r P.length (P ++ [X3.none_])).2 P.length [b, (X3.layX r P.length (P ++ [X3.none_])).1])) := HRR
  clear p0 p1 p2 p3 p4 p5 HRR HM1 hBd1
  generalize hLX : X3.layX r P.length (P ++ [X3.none_]) = LX at *
  clear hLX
  obtain ⟨f, P2⟩ := LX
  go_wp2_with fail
  refine KI.out.mono ?_
  rintro e w3 ⟨pv2, AS2, rfl, hM3, hF3⟩
  have hk1 := HKEEP.out.1
  rw [hlP] at hk1
  replace hk1 : P.length + 1 ≤ P2.length := hk1
  have hp2 : P2[P.length]? = some X3.none_ := by
    have := HKEEP.out.2 P.length (by omega)
    rw [List.getElem?_append_right (Nat.le_refl _), Nat.sub_self] at this
    exact this
  obtain ⟨pg, cap2, rfl⟩ := hM3.sl (by show 0 < P2.length; omega)
  replace hM3 : MRep B m w3 (.slice (some ⟨pg, 0, none⟩) P2.length cap2) AS2 P2 := hM3
  obtain ⟨av0, hav0⟩ : ∃ av0, AS2[P.length]? = some av0 := ⟨_, List.getElem?_eq_getElem (by rw [hM3.lenA]; omega)⟩
  have hs3 := hF3.size
  have cm : w3.cell? ⟨m, 0, none⟩ = some (.slice (some ⟨pg, 0, none⟩) P2.length cap2) := by rw [Lib.cell_of_heap hM3.box]; rfl
  have h1 : (P.length : Int) < (P2.length : Int) := by omega
  obtain ⟨w4, e4⟩ : ∃ w4, w3.alloc (.cells #[.int .i64 (b : Int), .int .i64 (f : Int)] 3) = w4 := ⟨_, rfl⟩
  have hb4 : Below w3.heap.size w3 w4 := by rw [← e4]; exact (Below.refl _ _).alloc (Nat.le_refl _) _
  have hn4 : w4.heap[w3.heap.size]? = some (.cells #[.int .i64 (b : Int), .int .i64 (f : Int)] 3 (0, 0)) := by rw [← e4]; exact new_block _ _
  have hg4 : w3.grownBy w4 av0.ownBlock := by rw [← e4]; exact World.grownBy_alloc _ _ _
  have hM4 := hM3.below hb4
  obtain ⟨hc4, hf4, -, -⟩ := hM4.cellat hp2 hav0
  have c7 := (hc4 7 (by decide)).trans (plc7 _ _)
  have f7 := hf4 (P.length * 8 + 7)
  have hown : w4.ownsRow B 3 1 (.slice (some ⟨w3.heap.size, 0, none⟩) 2 2) [b, f].length ([b, f].map fun (q : Nat) => Value.int .i64 (q : Int)) := ⟨rfl, .inr ⟨w3.heap.size, 2, _, rfl, by omega, hn4, Nat.le_refl _, by decide, rfl, rfl⟩⟩
  have HF := hid (hM3.restored hav0 hg4 hown (.inr ⟨_, rfl, Nat.le_refl _⟩))
  have HL := hid (LF.restored (j := P.length * 8 + 7) hM3 hav0 hg4 (.inr ⟨_, rfl, Nat.le_refl _⟩) (av := .slice (some ⟨w3.heap.size, 0, none⟩) 2 2))
  have HF3 := hid hF3
  clear hM3 hM4 hc4 hf4 hown hg4 hF3
  go_wp2_with fail
  go_ret
  have hRX := HRX.out
  subst hRX
  exact ⟨_, _, rfl, HF.out, (LF.ofBelow hb0).trans (HF1.out.trans ((LF.ofBelow hb2).trans (HF3.out.trans HL.out)))⟩

end Go.Proofs.YtochckefnjobhaaDoor.RM

/- regex's matcher: lay, of ways; lay. -/
namespace Go.Proofs.YtochckefnjobhaaDoor.RM
open Go Go.RowKit Go.Lib
open X3 (RX Pl)
set_option linter.unusedVariables false
set_option linter.unusedSimpArgs false

set_option maxRecDepth 100000 in
set_option maxHeartbeats 8000000 in
theorem lay_alt (S : Nat → Prop) (B m b : Nat) (hS : ∀ g, S g → g < B) (w : World) (pv : Value) (AS : List Value) (P : List Pl) (l : List RX) (g cap : Nat) (hl : RepLS S w l g 0) (hSg : S g) (hgw : g < w.heap.size) (hcap : l.length ≤ cap) (hM : MRep B m w pv AS P) (hb : b < P.length) (hBd : X3.Bd P P.length) (hP : P.length + (1 + X3.sizeL l) ≤ 100000) (hmu0 : X3.muL P + 4 * (1 + X3.sizeL l) ≤ 1000000) (hBw : B ≤ w.heap.size)
    (ih : ∀ (k : Nat) (hk : k < l.length) (w : World) (v : Value) (b : Nat) (pv : Value) (AS : List Value) (P : List Pl), RepS S w l[k] v → MRep B m w pv AS P → b < P.length → X3.Bd P P.length → P.length + l[k].size ≤ 100000 → X3.muL P + 4 * l[k].size ≤ 1000000 → B ≤ w.heap.size → Calls Tryd.prog 36 #[.pointer (some ⟨m, 0, none⟩), v, .int .i64 (b : Int)] w (LayP B m w pv AS (X3.layX l[k] b P))) :
    Calls Tryd.prog 36 #[.pointer (some ⟨m, 0, none⟩), nodeV 3 0 0 0 0 (.slice (some ⟨g, 0, none⟩) l.length cap), .int .i64 (b : Int)] w (LayP B m w pv AS (X3.layX (.alt l) b P)) := by
  have IH := hid ih
  have HL := hid hl
  clear ih hl
  have hll : l.length ≤ 100000 := by have := length_le_sizeL l; omega
  have hgB := hS g hSg
  obtain ⟨w0, e0⟩ : ∃ w0, w.alloc (.cells #[.int .i64 3, .int .u64 0, .int .u64 0, .int .u64 0, .int .u64 0, .slice (some ⟨g, 0, none⟩) l.length cap] 38) = w0 := ⟨_, rfl⟩
  have hb0 : Below w.heap.size w w0 := by rw [← e0]; exact (Below.refl _ _).alloc (Nat.le_refl _) _
  have hz0 : w0.heap[w.heap.size]? = some (.cells #[.int .i64 3, .int .u64 0, .int .u64 0, .int .u64 0, .int .u64 0, .slice (some ⟨g, 0, none⟩) l.length cap] 38 (0, 0)) := by rw [← e0]; exact new_block _ _
  have hs0 : w0.heap.size = w.heap.size + 1 := by rw [← e0]; simp
  have HM0 := hid (hM.below hb0)
  have HO := hid (fun (g : Nat) (ho : Own m pv AS g) => hM.own_ge ho)
  have KA := hid (add_any B m w0 pv AS P .empty 0 (hM.below hb0) (by omega) (by omega))
  have HBD := hid hBd
  have HZ := hid hz0
  obtain ⟨p0, p1, p2, p3, p4, p5⟩ := cells6 hz0
  clear hM hBd hz0
  obtain ⟨RR, HRR⟩ : ∃ RR, Hid (RR = X3.layAlt l P.length b (P ++ [X3.none_])) := ⟨_, hid rfl⟩
  have hLX : X3.layX (.alt l) b P = (P.length, RR) := by rw [HRR.out]; rfl
  rw [hLX]
  clear hLX
  have hlP : (P ++ [X3.none_]).length = P.length + 1 := by simp
  have hBd1 : X3.Bd (P ++ [X3.none_]) (P ++ [X3.none_]).length := (HBD.out.mono (by simp)).app (by simp [X3.none_]) (by simp [X3.none_])
  go_enter Tryd.func36, Tryd.ntmps36
  go_wp2_with fail
  refine KA.out.mono ?_
  rintro e w1 ⟨pv1, rfl, hM1, hF1⟩
  have hsz1 := hF1.size
  have hbox := (hF1.same w.heap.size (by omega) (fun ho => by have := (HO.out _ ho).2; omega)).trans HZ.out
  have hB1 : Below B w w1 := (hb0.mono hBw).trans (hF1.below HM0.out (by omega))
  have HB1 := hid hB1
  have HM1 := hid hM1
  have HF1 := hid hF1
  clear p0 p1 p2 p3 p4 p5 hM1 hF1 hB1
  obtain ⟨p0, p1, p2, p3, p4, p5⟩ := cells6 hbox
  clear hbox
  go_wp2_with fail
  clear p0 p1 p2 p3 p4 p5
  go_loopw [57] (fun t57 wr => ∃ (k : Nat) (pv' : Value) (AS' : List Value) (Pk : List Pl), k ≤ l.length ∧ t57 = .int .i64 (k : Int) ∧ MRep B m wr pv' AS' Pk ∧ LF w1 wr (Own m pv1 (AS ++ [.slice none 0 0])) (Own m pv' AS') ∧ Hid (RR = X3.layAlt (l.drop k) P.length b Pk) ∧ P.length < Pk.length ∧ X3.Bd Pk Pk.length ∧ Pk.length + X3.sizeL (l.drop k) ≤ 100000 ∧ X3.muL Pk ≤ X3.muL P + 1 + 4 * X3.sizeL (l.take k)) (fun t57 _ => l.length - (RowKit.intOf t57).toNat)
  case atStart => exact ⟨0, pv1, _, _, Nat.zero_le _, rfl, HM1.out, LF.ofBelow (Below.refl _ _), by rw [List.drop_zero]; exact HRR, by show P.length < (P ++ [X3.none_]).length; rw [hlP]; omega, hBd1, by rw [List.drop_zero]; show (P ++ [X3.none_]).length + _ ≤ _; rw [hlP]; omega, by rw [List.take_zero]; show X3.muL (P ++ [X3.none_]) ≤ _; rw [X3.muL_app]; simp [X3.none_, X3.sizeL]⟩
  case round =>
    obtain ⟨k, pv', AS', Pk, hk, rfl, hMr, hF, hRk, hPk, hBk, hsk, hmu⟩ := hrel
    by_cases hlt : k < l.length
    · have hBr : Below B w1 wr := hF.below HM1.out (by omega)
      have hszr := hF.size
      obtain ⟨kd', x', y', z', u', kv', hR, c0, c1, c2, c3, c4, c5⟩ := RepLS.at_ (HL.out.kept (keepS_B hS (HB1.out.trans hBr)) hSg hgw) k hlt
      rw [Nat.zero_add] at c0 c1 c2 c3 c4 c5
      obtain ⟨ko, kn, kc, rfl⟩ := hR.slice
      obtain ⟨wa, ea⟩ : ∃ wa, wr.alloc (.cells #[.int .i64 kd', .int .u64 x', .int .u64 y', .int .u64 z', .int .u64 u', .slice ko kn kc] 38) = wa := ⟨_, rfl⟩
      have hba : Below wr.heap.size wr wa := by rw [← ea]; exact (Below.refl _ _).alloc (Nat.le_refl _) _
      have hna : wa.heap[wr.heap.size]? = some (.cells #[.int .i64 kd', .int .u64 x', .int .u64 y', .int .u64 z', .int .u64 u', .slice ko kn kc] 38 (0, 0)) := by rw [← ea]; exact new_block _ _
      obtain ⟨q0, q1, q2, q3, q4, q5⟩ := cells6 hna
      have hsa := hba.size
      have hsl : l[k].size + X3.sizeL (l.drop (k + 1)) ≤ X3.sizeL (l.drop k) := by rw [List.drop_eq_getElem_cons hlt]; simp [X3.sizeL]
      have htk := sizeL_take l k hlt
      have htl := sizeL_le l (k + 1)
      have KI := hid (IH.out k hlt wa _ b pv' AS' Pk (hR.kept (keepS_below hba)) (hMr.below hba) (by omega) hBk (by omega) (by omega) (by omega))
      have HSND := hid (X3.lay_sound l[k] b Pk hBk (by omega))
      have HKEEP := hid (X3.lay_keep l[k] b Pk)
      have HST : Hid (RR = X3.layAlt (l.drop (k + 1)) P.length b (X3.addAlso (X3.layX l[k] b Pk).2 P.length (X3.layX l[k] b Pk).1)) := hid (by rw [hRk.out, List.drop_eq_getElem_cons hlt]; rfl)
      have h1 : (k : Int) < (l.length : Int) := by omega
      have h2 : (0 : Int) ≤ (k : Int) := by omega
      have HMa := hid (hMr.below hba)
      have HF := hid hF
      have HBA := hid hba
      clear hR hMr hF hna hba hRk hBr
      generalize hLX : X3.layX l[k] b Pk = LX at *
      clear hLX
      obtain ⟨f, P2⟩ := LX
      go_wp2_with fail
      refine KI.out.mono ?_
      rintro e w3 ⟨pv2, AS2, rfl, hM3, hF3⟩
      have hk1 : Pk.length ≤ P2.length := HKEEP.out.1
      obtain ⟨pl0, hpl0⟩ : ∃ pl0, P2[P.length]? = some pl0 := ⟨_, List.getElem?_eq_getElem (by omega)⟩
      obtain ⟨pg, cap2, rfl⟩ := hM3.sl (by show 0 < P2.length; omega)
      replace hM3 : MRep B m w3 (.slice (some ⟨pg, 0, none⟩) P2.length cap2) AS2 P2 := hM3
      obtain ⟨av0, hav0⟩ : ∃ av0, AS2[P.length]? = some av0 := ⟨_, List.getElem?_eq_getElem (by rw [hM3.lenA]; omega)⟩
      have hs3 := hF3.size
      have h3 : (P.length : Int) < (P2.length : Int) := by omega
      have h4 : (0 : Int) ≤ (P.length : Int) := by omega
      have hal := X3.also_le_mu hpl0
      have hmu2 := HSND.out.mu
      replace hmu2 : X3.muL P2 ≤ X3.muL Pk + (4 * l[k].size - 1) := hmu2
      have hszk := size_in l k hlt
      obtain ⟨wd, hwd⟩ : ∃ wd, w3.drew = wd := ⟨_, rfl⟩
      have hbd : Below w3.heap.size w3 wd := by rw [← hwd]; exact (Below.refl _ _).drew
      have hsd : wd.heap.size = w3.heap.size := by rw [← hwd]; rfl
      have HMd := hid (hM3.below hbd)
      have HFd := hid (hF3.trans (LF.ofBelow hbd))
      have cd := HMd.out.cellat hpl0 hav0
      have cm : wd.cell? ⟨m, 0, none⟩ = some (.slice (some ⟨pg, 0, none⟩) P2.length cap2) := by rw [Lib.cell_of_heap HMd.out.box]; rfl
      have c7 := (cd.1 7 (by decide)).trans (plc7 _ _)
      clear hM3 hF3 hbd cd
      go_upto_region 18 with fail
      refine region_T 18 (fun w' => w'.cell? ⟨m, 0, none⟩ = some (.slice (some ⟨pg, 0, none⟩) P2.length cap2) ∧ w'.cell? ⟨pg, P.length * 8 + 7, none⟩ = some av0) (by kernel_rfl) (by rw [hwd]; exact ⟨cm, c7⟩) (fun inv hHeld => ?_)
      rw [hwd] at hHeld ⊢
      clear hwd
      refine anyT_take (i := 0) (oi := { dst := some 65, op := Op.move (Operand.tmp 0), type := 79, pos := "match.go:57", after := #[], guard := none }) (v := ?_) rfl (by kernel_rfl) (by kernel_rfl) (by kernel_rfl) (by decide) (by decide) (by kernel_rfl) (by kernel_rfl) (fun _ _ _ h => h) (Or.inl ⟨by rfl, ?_⟩) hHeld inv (fun inv => ?_)
      rotate_left
      · intro w hSw
        try dsimp only at hSw
        go_simp
        try with_reducible rfl
      simp only [Act.put, List.setIfInBounds_toArray, List.set_cons_zero, List.set_cons_succ]
      refine anyT_take (i := 1) (oi := { dst := some 66, op := Op.nilCheck (Operand.tmp 65), type := 0, pos := "match.go:57", after := #[{ on := 0, ground := Ground.data }], guard := none }) (v := ?_) rfl (by kernel_rfl) (by kernel_rfl) (by kernel_rfl) (by decide) (by decide) (by kernel_rfl) (by kernel_rfl) (fun _ _ _ h => h) (Or.inl ⟨by rfl, ?_⟩) hHeld inv (fun inv => ?_)
      rotate_left
      · intro w hSw
        try dsimp only at hSw
        go_simp
        try with_reducible rfl
      simp only [Act.put, List.setIfInBounds_toArray, List.set_cons_zero, List.set_cons_succ]
      refine anyT_take (i := 2) (oi := { dst := some 67, op := Op.fieldAddr 84 (Operand.tmp 66) 0, type := 0, pos := "match.go:57", after := #[{ on := 1, ground := Ground.data }], guard := none }) (v := ?_) rfl (by kernel_rfl) (by kernel_rfl) (by kernel_rfl) (by decide) (by decide) (by kernel_rfl) (by kernel_rfl) (fun _ _ _ h => h) (Or.inl ⟨by rfl, ?_⟩) hHeld inv (fun inv => ?_)
      rotate_left
      · intro w hSw
        try dsimp only at hSw
        go_simp
        try with_reducible rfl
      simp only [Act.put, List.setIfInBounds_toArray, List.set_cons_zero, List.set_cons_succ]
      refine anyT_take (i := 3) (oi := { dst := some 68, op := Op.load 82 (Operand.tmp 67), type := 82, pos := "match.go:57", after := #[{ on := 2, ground := Ground.data }], guard := none }) (v := ?_) rfl (by kernel_rfl) (by kernel_rfl) (by kernel_rfl) (by decide) (by decide) (by kernel_rfl) (by kernel_rfl) (fun _ _ _ h => h) (Or.inl ⟨by rfl, ?_⟩) hHeld inv (fun inv => ?_)
      rotate_left
      · intro w hSw
        try dsimp only at hSw
        go_simp
        try with_reducible rfl
      simp only [Act.put, List.setIfInBounds_toArray, List.set_cons_zero, List.set_cons_succ]
      refine anyT_take (i := 4) (oi := { dst := some 69, op := Op.move (Operand.tmp 8), type := 3, pos := "match.go:57", after := #[], guard := none }) (v := ?_) rfl (by kernel_rfl) (by kernel_rfl) (by kernel_rfl) (by decide) (by decide) (by kernel_rfl) (by kernel_rfl) (fun _ _ _ h => h) (Or.inl ⟨by rfl, ?_⟩) hHeld inv (fun inv => ?_)
      rotate_left
      · intro w hSw
        try dsimp only at hSw
        go_simp
        try with_reducible rfl
      simp only [Act.put, List.setIfInBounds_toArray, List.set_cons_zero, List.set_cons_succ]
      refine anyT_take (i := 5) (oi := { dst := some 70, op := Op.move (Operand.tmp 0), type := 79, pos := "match.go:57", after := #[], guard := none }) (v := ?_) rfl (by kernel_rfl) (by kernel_rfl) (by kernel_rfl) (by decide) (by decide) (by kernel_rfl) (by kernel_rfl) (fun _ _ _ h => h) (Or.inl ⟨by rfl, ?_⟩) hHeld inv (fun inv => ?_)
      rotate_left
      · intro w hSw
        try dsimp only at hSw
        go_simp
        try with_reducible rfl
      simp only [Act.put, List.setIfInBounds_toArray, List.set_cons_zero, List.set_cons_succ]
      refine anyT_take (i := 6) (oi := { dst := some 71, op := Op.nilCheck (Operand.tmp 70), type := 0, pos := "match.go:57", after := #[{ on := 5, ground := Ground.data }], guard := none }) (v := ?_) rfl (by kernel_rfl) (by kernel_rfl) (by kernel_rfl) (by decide) (by decide) (by kernel_rfl) (by kernel_rfl) (fun _ _ _ h => h) (Or.inl ⟨by rfl, ?_⟩) hHeld inv (fun inv => ?_)
      rotate_left
      · intro w hSw
        try dsimp only at hSw
        go_simp
        try with_reducible rfl
      simp only [Act.put, List.setIfInBounds_toArray, List.set_cons_zero, List.set_cons_succ]
      refine anyT_take (i := 7) (oi := { dst := some 72, op := Op.fieldAddr 84 (Operand.tmp 71) 0, type := 0, pos := "match.go:57", after := #[{ on := 6, ground := Ground.data }], guard := none }) (v := ?_) rfl (by kernel_rfl) (by kernel_rfl) (by kernel_rfl) (by decide) (by decide) (by kernel_rfl) (by kernel_rfl) (fun _ _ _ h => h) (Or.inl ⟨by rfl, ?_⟩) hHeld inv (fun inv => ?_)
      rotate_left
      · intro w hSw
        try dsimp only at hSw
        go_simp
        try with_reducible rfl
      simp only [Act.put, List.setIfInBounds_toArray, List.set_cons_zero, List.set_cons_succ]
      refine anyT_take (i := 8) (oi := { dst := some 73, op := Op.load 82 (Operand.tmp 72), type := 82, pos := "match.go:57", after := #[{ on := 7, ground := Ground.data }], guard := none }) (v := ?_) rfl (by kernel_rfl) (by kernel_rfl) (by kernel_rfl) (by decide) (by decide) (by kernel_rfl) (by kernel_rfl) (fun _ _ _ h => h) (Or.inl ⟨by rfl, ?_⟩) hHeld inv (fun inv => ?_)
      rotate_left
      · intro w hSw
        try dsimp only at hSw
        go_simp
        try with_reducible rfl
      simp only [Act.put, List.setIfInBounds_toArray, List.set_cons_zero, List.set_cons_succ]
      refine anyT_take (i := 9) (oi := { dst := some 74, op := Op.move (Operand.tmp 8), type := 3, pos := "match.go:57", after := #[], guard := none }) (v := ?_) rfl (by kernel_rfl) (by kernel_rfl) (by kernel_rfl) (by decide) (by decide) (by kernel_rfl) (by kernel_rfl) (fun _ _ _ h => h) (Or.inl ⟨by rfl, ?_⟩) hHeld inv (fun inv => ?_)
      rotate_left
      · intro w hSw
        try dsimp only at hSw
        go_simp
        try with_reducible rfl
      simp only [Act.put, List.setIfInBounds_toArray, List.set_cons_zero, List.set_cons_succ]
      refine anyT_take (i := 10) (oi := { dst := some 75, op := Op.indexAddr 82 (Operand.tmp 73) (Operand.tmp 74), type := 0, pos := "match.go:57", after := #[{ on := 8, ground := Ground.data }, { on := 9, ground := Ground.data }], guard := none }) (v := ?_) rfl (by kernel_rfl) (by kernel_rfl) (by kernel_rfl) (by decide) (by decide) (by kernel_rfl) (by kernel_rfl) (fun _ _ _ h => h) (Or.inl ⟨by rfl, ?_⟩) hHeld inv (fun inv => ?_)
      rotate_left
      · intro w hSw
        try dsimp only at hSw
        go_simp
        try with_reducible rfl
      simp only [Act.put, List.setIfInBounds_toArray, List.set_cons_zero, List.set_cons_succ]
      refine anyT_take (i := 11) (oi := { dst := some 76, op := Op.fieldAddr 81 (Operand.tmp 75) 2, type := 0, pos := "match.go:57", after := #[{ on := 10, ground := Ground.data }], guard := none }) (v := ?_) rfl (by kernel_rfl) (by kernel_rfl) (by kernel_rfl) (by decide) (by decide) (by kernel_rfl) (by kernel_rfl) (fun _ _ _ h => h) (Or.inl ⟨by rfl, ?_⟩) hHeld inv (fun inv => ?_)
      rotate_left
      · intro w hSw
        try dsimp only at hSw
        go_simp
        try with_reducible rfl
      simp only [Act.put, List.setIfInBounds_toArray, List.set_cons_zero, List.set_cons_succ]
      refine anyT_take (i := 12) (oi := { dst := some 77, op := Op.load 56 (Operand.tmp 76), type := 56, pos := "match.go:57", after := #[{ on := 11, ground := Ground.data }], guard := none }) (v := ?_) rfl (by kernel_rfl) (by kernel_rfl) (by kernel_rfl) (by decide) (by decide) (by kernel_rfl) (by kernel_rfl) (fun _ _ _ h => h) (Or.inl ⟨by rfl, ?_⟩) hHeld inv (fun inv => ?_)
      rotate_left
      · intro w hSw
        try dsimp only at hSw
        go_simp
        try with_reducible rfl
      simp only [Act.put, List.setIfInBounds_toArray, List.set_cons_zero, List.set_cons_succ]
      refine anyT_take (i := 13) (oi := { dst := some 78, op := Op.move (Operand.tmp 11), type := 3, pos := "match.go:57", after := #[], guard := none }) (v := ?_) rfl (by kernel_rfl) (by kernel_rfl) (by kernel_rfl) (by decide) (by decide) (by kernel_rfl) (by kernel_rfl) (fun _ _ _ h => h) (Or.inl ⟨by rfl, ?_⟩) hHeld inv (fun inv => ?_)
      rotate_left
      · intro w hSw
        try dsimp only at hSw
        go_simp
        try with_reducible rfl
      simp only [Act.put, List.setIfInBounds_toArray, List.set_cons_zero, List.set_cons_succ]
      obtain ⟨w4, e4⟩ : ∃ w4, wd.alloc (.cells #[.int .i64 (f : Int)] 3) = w4 := ⟨_, rfl⟩
      have hb4 : Below wd.heap.size wd w4 := by rw [← e4]; exact (Below.refl _ _).alloc (Nat.le_refl _) _
      have hn4 : w4.heap[wd.heap.size]? = some (.cells #[.int .i64 (f : Int)] 3 (0, 0)) := by rw [← e4]; exact new_block _ _
      have hs4 : w4.heap.size = wd.heap.size + 1 := by rw [← e4]; simp
      have HM4 := hid (HMd.out.below hb4)
      have cd4 := HM4.out.cellat hpl0 hav0
      have cm4 : w4.cell? ⟨m, 0, none⟩ = some (.slice (some ⟨pg, 0, none⟩) P2.length cap2) := by rw [Lib.cell_of_heap HM4.out.box]; rfl
      have c74 := (cd4.1 7 (by decide)).trans (plc7 _ _)
      clear cd4
      refine anyT_next (i := 14) (o := { dst := some 79, op := Op.buildSlice 56 1 #[(0, Operand.tmp 78)], type := 56, pos := "match.go:57", after := #[{ on := 13, ground := Ground.data }], guard := none }) (by kernel_rfl) rfl (by decide) inv (fun inv K' hK => ?_)
      go_simp
      refine hK.out _ _ ⟨cm4, c74⟩ ?_
      clear hK K'
      try simp only [Act.put, List.setIfInBounds_toArray, List.set_cons_zero, List.set_cons_succ]
      obtain ⟨i0, hi, hq0, hq1, hq2⟩ := info_parts info3
      refine anyT_next (i := 15) (o := { dst := some 80, op := Op.call { callee := Callee.builtin Builtin.append, args := #[Operand.tmp 77, Operand.tmp 79], argTypes := #[56, 56] }, type := 56, pos := "match.go:57", after := #[{ on := 12, ground := Ground.data }, { on := 14, ground := Ground.data }], guard := none }) (by kernel_rfl) rfl (by decide) inv (fun inv K' hK => ?_)
      simp only [Region.wanted]
      rw [if_pos trivial]
      refine wp_append_own_at (.tmp 77) (.tmp 79) 56 rfl B 3 i0 (.int .i64 0) 1 8 Tryd.underlying56 hi hq0 hq1 hq2 rfl (by decide) av0 pl0.also.length _ rfl (HM4.out.also _ _ _ hpl0 hav0) ⟨w3.heap.size, 0, none⟩ 1 1 [.int .i64 (f : Int)] ?c0 rfl ?c1 ?c2 ?c3 ?c4 ?c5 ?_
      case c0 => simp [hsd, Act.eval]
      case c1 =>
        intro j v hj
        rw [hsd] at hn4
        have := Lib.cell_of_heap hn4 j
        rw [show (⟨w3.heap.size, 0, none⟩ : Addr).add j = ⟨w3.heap.size, j, none⟩ by simp [Addr.add]; omega]
        rw [this, ← hj]
        simp
      case c2 => intro v hv; simp at hv; rcases hv with rfl; rfl
      case c3 => unfold maxLen; omega
      case c4 => omega
      case c5 => omega
      intro v' w5 hown' hgrow hnil hat
      have hapm : av0.ownBlock ≠ some m := fun e => (HM4.out.ap1 _ _ _ hav0 e).1 rfl
      have happ : av0.ownBlock ≠ some pg := fun e => (HM4.out.ap1 _ _ _ hav0 e).2 rfl
      have hpgl := (HM4.out.row.lt pg rfl).2
      have hm5 := (hgrow.block m (Array.getElem?_eq_some_iff.1 HM4.out.box).1 (fun e => hapm e.symm)).trans HM4.out.box
      have cm5 : w5.cell? ⟨m, 0, none⟩ = some (.slice (some ⟨pg, 0, none⟩) P2.length cap2) := by rw [Lib.cell_of_heap hm5]; rfl
      have c75 : w5.cell? ⟨pg, P.length * 8 + 7, none⟩ = some av0 := (World.cell?_of_block (hgrow.block pg hpgl (fun e => happ e.symm))).trans c74
      have f75 : w5.frozen? ⟨pg, P.length * 8 + 7, none⟩ = false := (World.frozen?_of_block (hgrow.block pg hpgl (fun e => happ e.symm))).trans ((HM4.out.cellat hpl0 hav0).2.1 _)
      obtain ⟨vo, vc, rfl⟩ : ∃ vo vc, v' = .slice vo (pl0.also.length + 1) vc := by
            rcases hown'.2 with ⟨_, h0⟩ | ⟨g, cap, cur, rfl, _⟩
            · omega
            · exact ⟨_, _, rfl⟩
      have hat2 : (Value.slice vo (pl0.also.length + 1) vc).ownBlock = av0.ownBlock ∨ ∃ g, (Value.slice vo (pl0.also.length + 1) vc).ownBlock = some g ∧ w4.heap.size ≤ g := hat.imp id (fun e => ⟨_, e, Nat.le_refl _⟩)
      have hown2 : w5.ownsRow B 3 1 (.slice vo (pl0.also.length + 1) vc) (pl0.also ++ [f]).length ((pl0.also ++ [f]).map fun (q : Nat) => Value.int .i64 (q : Int)) := by rw [List.length_append, List.map_append]; exact hown'
      have hmod : (P2.modify P.length fun pl => { pl with also := pl0.also ++ [f] }) = X3.addAlso P2 P.length f := X3.modify_also hpl0
      have hRS := HM4.out.restored hav0 hgrow hown2 hat2
      rw [hmod] at hRS
      have HFN := hid hRS
      have HLN := hid (LF.restored (j := P.length * 8 + 7) HM4.out hav0 hgrow hat2)
      have hsg := hgrow.size
      clear hown' hgrow hnil hat hat2 hown2 hRS hm5 hmod
      refine hK.out _ _ ⟨cm5, c75⟩ ?_
      clear hK K'
      try simp only [Act.put, List.setIfInBounds_toArray, List.set_cons_zero, List.set_cons_succ]
      refine anyT_take (i := 16) (oi := { dst := some 81, op := Op.indexAddr 82 (Operand.tmp 68) (Operand.tmp 69), type := 0, pos := "match.go:57", after := #[{ on := 3, ground := Ground.data }, { on := 4, ground := Ground.data }, { on := 0, ground := Ground.phase }, { on := 1, ground := Ground.phase }, { on := 2, ground := Ground.phase }, { on := 3, ground := Ground.phase }, { on := 4, ground := Ground.phase }, { on := 5, ground := Ground.phase }, { on := 6, ground := Ground.phase }, { on := 7, ground := Ground.phase }, { on := 8, ground := Ground.phase }, { on := 9, ground := Ground.phase }, { on := 10, ground := Ground.phase }, { on := 11, ground := Ground.phase }, { on := 12, ground := Ground.phase }, { on := 13, ground := Ground.phase }, { on := 14, ground := Ground.phase }, { on := 15, ground := Ground.phase }], guard := none }) (v := ?_) rfl (by kernel_rfl) (by kernel_rfl) (by kernel_rfl) (by decide) (by decide) (by kernel_rfl) (by kernel_rfl) (fun _ _ _ h => h) (Or.inl ⟨by rfl, ?_⟩) ⟨cm5, c75⟩ inv (fun inv => ?_)
      rotate_left
      · intro w hSw
        try dsimp only at hSw
        go_simp
        try with_reducible rfl
      simp only [Act.put, List.setIfInBounds_toArray, List.set_cons_zero, List.set_cons_succ]
      refine anyT_take (i := 17) (oi := { dst := some 82, op := Op.fieldAddr 81 (Operand.tmp 81) 2, type := 0, pos := "match.go:57", after := #[{ on := 16, ground := Ground.data }, { on := 0, ground := Ground.phase }, { on := 1, ground := Ground.phase }, { on := 2, ground := Ground.phase }, { on := 3, ground := Ground.phase }, { on := 4, ground := Ground.phase }, { on := 5, ground := Ground.phase }, { on := 6, ground := Ground.phase }, { on := 7, ground := Ground.phase }, { on := 8, ground := Ground.phase }, { on := 9, ground := Ground.phase }, { on := 10, ground := Ground.phase }, { on := 11, ground := Ground.phase }, { on := 12, ground := Ground.phase }, { on := 13, ground := Ground.phase }, { on := 14, ground := Ground.phase }, { on := 15, ground := Ground.phase }], guard := none }) (v := ?_) rfl (by kernel_rfl) (by kernel_rfl) (by kernel_rfl) (by decide) (by decide) (by kernel_rfl) (by kernel_rfl) (fun _ _ _ h => h) (Or.inl ⟨by rfl, ?_⟩) ⟨cm5, c75⟩ inv (fun inv => ?_)
      rotate_left
      · intro w hSw
        try dsimp only at hSw
        go_simp
        try with_reducible rfl
      simp only [Act.put, List.setIfInBounds_toArray, List.set_cons_zero, List.set_cons_succ]
      refine anyT_one (i := 18) (o := { dst := none, op := Op.store 56 (Operand.tmp 82) (Operand.tmp 80), type := 0, pos := "match.go:57", after := #[{ on := 17, ground := Ground.data }, { on := 15, ground := Ground.data }, { on := 15, ground := Ground.chain }, { on := 0, ground := Ground.phase }, { on := 1, ground := Ground.phase }, { on := 2, ground := Ground.phase }, { on := 3, ground := Ground.phase }, { on := 4, ground := Ground.phase }, { on := 5, ground := Ground.phase }, { on := 6, ground := Ground.phase }, { on := 7, ground := Ground.phase }, { on := 8, ground := Ground.phase }, { on := 9, ground := Ground.phase }, { on := 10, ground := Ground.phase }, { on := 11, ground := Ground.phase }, { on := 12, ground := Ground.phase }, { on := 13, ground := Ground.phase }, { on := 14, ground := Ground.phase }, { on := 15, ground := Ground.phase }], guard := none }) (by kernel_rfl) rfl (fun K' hK => ?_)
      go_simp
      refine hK.out _ _ (fun h => absurd h (by decide)) ?_
      clear hK K'
      try simp only [Act.put, List.setIfInBounds_toArray, List.set_cons_zero, List.set_cons_succ]
      refine anyT_done (by kernel_rfl) ?_ _
      go_wp2_with fail
      have hadd := X3.muL_add P2 P.length f
      refine ⟨⟨k + 1, _, _, _, by omega, rfl, HFN.out, HF.out.trans ((LF.ofBelow HBA.out).trans (HFd.out.trans ((LF.ofBelow hb4).trans HLN.out))), HST, by rw [X3.addAlso_len]; show P.length < P2.length; omega, ?_, ?_, ?_⟩, ?_⟩
      · rw [X3.addAlso_len]; exact HSND.out.bd.addAlso HSND.out.lt
      · rw [X3.addAlso_len]; have : P2.length ≤ Pk.length + l[k].size := HSND.out.len; omega
      · have h4 := size_pos l[k]; omega
      · show l.length - ((k : Int) + 1).toNat < l.length - ((k : Int)).toNat
        omega
    · have h1 : ¬ (k : Int) < (l.length : Int) := by omega
      obtain rfl : k = l.length := by omega
      have hRR : RR = Pk := by rw [hRk.out, List.drop_length]; rfl
      subst hRR
      have HMr := hid hMr
      have HF := hid hF
      clear hMr hF
      go_wp2_with fail
      go_ret
      exact ⟨pv', AS', rfl, HMr.out, (LF.ofBelow hb0).trans (HF1.out.trans HF.out)⟩


theorem lay_any (S : Nat → Prop) (B m : Nat) (hS : ∀ g, S g → g < B) : ∀ (n : Nat) (r : RX) (w : World) (v : Value) (b : Nat) (pv : Value) (AS : List Value) (P : List Pl), r.size ≤ n → RepS S w r v → MRep B m w pv AS P → b < P.length → X3.Bd P P.length → P.length + r.size ≤ 100000 → X3.muL P + 4 * r.size ≤ 1000000 → B ≤ w.heap.size →
    Calls Tryd.prog 36 #[.pointer (some ⟨m, 0, none⟩), v, .int .i64 (b : Int)] w (LayP B m w pv AS (X3.layX r b P)) := by
  intro n
  induction n with
  | zero => intro r w v b pv AS P h; have := size_pos r; omega
  | succ n ih =>
    intro r w v b pv AS P hn hR hM hb hBd hP hmu hB
    cases hR with
    | empty => exact lay_empty B m b w pv AS P hM
    | bytes x y z u hx hy hz hu => exact lay_bytes B m b w pv AS P x y z u hM (by omega) hB
    | cat l g cap h hc hg hw h0 =>
      simp only [X3.RX.size] at hn hP hmu
      exact lay_cat S B m b hS w pv AS P l g cap h hg hw hc hM hb hBd (by omega) (by omega) hB fun k hk w v b pv AS P h1 h2 h3 h4 h5 h6 h7 => ih l[k] w v b pv AS P (by have := size_in l k hk; omega) h1 h2 h3 h4 h5 h6 h7
    | alt l g cap h hc hg hw h0 =>
      simp only [X3.RX.size] at hn hP hmu
      exact lay_alt S B m b hS w pv AS P l g cap h hg hw hc hM hb hBd (by omega) (by omega) hB fun k hk w v b pv AS P h1 h2 h3 h4 h5 h6 h7 => ih l[k] w v b pv AS P (by have := size_in l k hk; omega) h1 h2 h3 h4 h5 h6 h7
    | star r g cap h hc hg hw =>
      simp only [X3.RX.size] at hn hP hmu
      exact lay_star S B m b hS w pv AS P r _ (.star r g cap h hc hg hw) hM hb hBd (by omega) (by omega) hB fun w v b pv AS P h1 h2 h3 h4 h5 h6 h7 => ih r w v b pv AS P (by omega) h1 h2 h3 h4 h5 h6 h7

end Go.Proofs.YtochckefnjobhaaDoor.RM

/- regex's matcher: fold. -/
namespace Go.Proofs.YtochckefnjobhaaDoor.RM
open Go Go.RowKit Go.Lib
open X3 (RX Pl)
set_option linter.unusedVariables false
set_option linter.unusedSimpArgs false

abbrev ints (l : List Nat) : List Value := l.map fun (q : Nat) => Value.int .i64 (q : Int)
theorem ints_app (a b : List Nat) : ints (a ++ b) = ints a ++ ints b := List.map_append
theorem ints_at {l : List Nat} {k q : Nat} (h : l[k]? = some q) : (ints l)[k]? = some (.int .i64 (q : Int)) := by simp [ints, h]

/-- A matcher that gathers: its places, its marks, and how far it is; all but the marks in blocks below BS. -/
structure MS (BS m pg cap sg : Nat) (P : List Pl) (AS : List Value) (seen : List Nat) (now : Nat) (w : World) : Prop where
  box : w.heap[m]? = some (.cells #[.slice (some ⟨pg, 0, none⟩) P.length cap, .slice (some ⟨sg, 0, none⟩) P.length P.length, .int .i64 (now : Int)] 84 (0, 0))
  pls : ∀ (k : Nat) (pl : Pl) (av : Value), P[k]? = some pl → AS[k]? = some av → ∀ j, j < 8 → w.cell? ⟨pg, k * 8 + j, none⟩ = (plc pl av)[j]?
  lenA : AS.length = P.length
  also : ∀ (k : Nat) (pl : Pl) (av : Value), P[k]? = some pl → AS[k]? = some av → (pl.also = [] ∧ av = .slice none 0 0) ∨ ∃ g c, av = .slice (some ⟨g, 0, none⟩) pl.also.length c ∧ g < BS ∧ g ≠ sg ∧ ∀ (j q : Nat), pl.also[j]? = some q → w.cell? ⟨g, j, none⟩ = some (.int .i64 (q : Int))
  marks : w.heap[sg]? = some (.cells (ints seen).toArray 3 (0, 0))
  lenS : seen.length = P.length
  cap_ : P.length ≤ cap
  m_lt : m < BS
  pg_lt : pg < BS
  m_ne : m ≠ sg
  pg_ne : pg ≠ sg

/-- All below B but the marks lies there yet. -/
structure FF (B sg : Nat) (w w' : World) : Prop where
  os : w'.os = w.os
  tape : w'.tape = w.tape
  output : w'.output = w.output
  size : w.heap.size ≤ w'.heap.size
  same : ∀ g, g < B → g ≠ sg → w'.heap[g]? = w.heap[g]?
theorem FF.refl (B sg : Nat) (w : World) : FF B sg w w := ⟨rfl, rfl, rfl, Nat.le_refl _, fun _ _ _ => rfl⟩
theorem FF.trans {B sg : Nat} {a b c : World} (h : FF B sg a b) (k : FF B sg b c) : FF B sg a c :=
  ⟨k.os.trans h.os, k.tape.trans h.tape, k.output.trans h.output, Nat.le_trans h.size k.size, fun g hg hn => (k.same g hg hn).trans (h.same g hg hn)⟩
theorem FF.ofBelow {B sg : Nat} {w w' : World} (h : Below B w w') : FF B sg w w' := ⟨h.os, h.tape, h.output, h.size, fun g hg _ => h.block g hg⟩
theorem FF.mono {B B' sg : Nat} {w w' : World} (h : FF B sg w w') (hB : B' ≤ B) : FF B' sg w w' := ⟨h.os, h.tape, h.output, h.size, fun g hg hn => h.same g (by omega) hn⟩
theorem MS.ff {BS m pg cap sg : Nat} {P : List Pl} {AS : List Value} {seen seen' : List Nat} {now B : Nat} {w w' : World} (h : MS BS m pg cap sg P AS seen now w) (hf : FF B sg w w') (hB : BS ≤ B)
    (hm : w'.heap[sg]? = some (.cells (ints seen').toArray 3 (0, 0))) (hl : seen'.length = P.length) : MS BS m pg cap sg P AS seen' now w' :=
  ⟨(hf.same m (by have := h.m_lt; omega) h.m_ne).trans h.box,
   fun k pl av h1 h2 j hj => (World.cell?_of_block (hf.same pg (by have := h.pg_lt; omega) h.pg_ne)).trans (h.pls k pl av h1 h2 j hj), h.lenA,
   fun k pl av h1 h2 => (h.also k pl av h1 h2).imp id (fun ⟨g, c, e, hg, hne, hq⟩ => ⟨g, c, e, hg, hne, fun j q hjq => (World.cell?_of_block (hf.same g (by omega) hne)).trans (hq j q hjq)⟩),
   hm, hl, h.cap_, h.m_lt, h.pg_lt, h.m_ne, h.pg_ne⟩

theorem plc5 (pl : Pl) (av : Value) : (plc pl av)[6]? = some (.int .i64 (pl.next : Int)) := by
  obtain ⟨k, x, y, z, u, h, -⟩ := bcs_shape pl.b
  simp [plc, h]

theorem owns_sl {w : World} {B n : Nat} {v : Value} {xs : List Value} (h : w.ownsRow B 3 1 v n xs) (h0 : 0 < n) : ∃ g cap cur, v = .slice (some ⟨g, 0, none⟩) n cap ∧ B ≤ g ∧ w.heap[g]? = some (.cells cur 3 (0, 0)) ∧ n ≤ cap ∧ cap ≤ maxLen ∧ cur.size = cap * 1 ∧ cur.toList.take (n * 1) = xs := by
  rcases h.2 with ⟨_, h3⟩ | ⟨g, cap, cur, rest⟩
  · omega
  · exact ⟨g, cap, cur, rest⟩
theorem owns_pop {w : World} {B n g cap : Nat} {xs : List Value} {x : Value} (h : w.ownsRow B 3 1 (.slice (some ⟨g, 0, none⟩) (n + 1) cap) (n + 1) (xs ++ [x])) (hx : xs.length = n) : w.ownsRow B 3 1 (.slice (some ⟨g, 0, none⟩) n cap) n xs := by
  refine ⟨by omega, ?_⟩
  rcases h.2 with ⟨h3, _⟩ | ⟨g', cap', cur, hv, hB, hg, hc, hcm, hs, ht⟩
  · cases h3
  · injection hv with h1 h2 h3
    subst h3
    have h1' : g = g' := by injection h1 with h1; injection h1
    subst h1'
    refine .inr ⟨g, cap, cur, rfl, hB, hg, by omega, hcm, hs, ?_⟩
    have e : cur.toList.take (n * 1) = (cur.toList.take ((n + 1) * 1)).take n := by rw [List.take_take]; congr 1; omega
    rw [e, ht, List.take_left' hx]

/-- What fold's loop keeps. -/
structure FoldSt (BS BD m pg cap sg : Nat) (P : List Pl) (AS : List Value) (T : Nat → Prop) (now C : Nat) (w0 : World) (seen0 more0 : List Nat) (gk : Nat) (av mv : Value) (wr : World) (at_ more seen : List Nat) : Prop where
  ms : MS BS m pg cap sg P AS seen now wr
  ga : X3.Gath P T (now + 1) seen at_ more
  ff : FF BD sg w0 wr
  ra : wr.ownsRow BD 3 1 av at_.length (ints at_)
  rm : wr.ownsRow BD 3 1 mv more.length (ints more)
  ne : ∀ g, av.ownBlock = some g → mv.ownBlock ≠ some g
  gk : gk = X3.muS P seen (now + 1) + more.length
  few : at_.length + X3.muS P seen (now + 1) ≤ C
  few2 : X3.muS P seen (now + 1) + more.length ≤ C + 1
  mono : ∀ p : Nat, seen0[p]? = some (now + 1) → seen[p]? = some (now + 1)
  mores : ∀ q ∈ more0, seen[q]? = some (now + 1) ∨ q ∈ more

/-- What fold comes to. -/
def FoldP (BS BD m pg cap sg : Nat) (P : List Pl) (AS : List Value) (T : Nat → Prop) (now C : Nat) (w0 : World) (seen0 more0 : List Nat) (e : Ending) (w' : World) : Prop :=
  ∃ av at_ seen, e = .returned av ∧ MS BS m pg cap sg P AS seen now w' ∧ X3.Gath P T (now + 1) seen at_ [] ∧ FF BD sg w0 w' ∧ w'.ownsRow BD 3 1 av at_.length (ints at_) ∧
    at_.length + X3.muS P seen (now + 1) ≤ C ∧ (∀ p : Nat, seen0[p]? = some (now + 1) → seen[p]? = some (now + 1)) ∧ (∀ q ∈ more0, seen[q]? = some (now + 1))

theorem FoldSt.popped {BS BD m pg cap sg : Nat} {P : List Pl} {AS : List Value} {T : Nat → Prop} {now C : Nat} {w0 : World} {seen0 more0 : List Nat} {gk : Nat} {av mv mv' : Value} {wr wr' : World} {at_ mm seen : List Nat} {p : Nat}
    (h : FoldSt BS BD m pg cap sg P AS T now C w0 seen0 more0 gk av mv wr at_ (mm ++ [p]) seen) (hp : seen[p]? = some (now + 1)) (hb : Below wr.heap.size wr wr') (hBS : BS ≤ BD) (hBw : BD ≤ wr.heap.size) (hsg : sg < BD)
    (hrm : wr.ownsRow BD 3 1 mv' mm.length (ints mm)) (he : mv'.ownBlock = mv.ownBlock) : FoldSt BS BD m pg cap sg P AS T now C w0 seen0 more0 (gk - 1) av mv' wr' at_ mm seen := by
  have hff : FF BD sg wr wr' := FF.ofBelow (hb.mono hBw)
  have hl : (mm ++ [p]).length = mm.length + 1 := by simp
  have h1 := h.gk
  have h2 := h.few
  have h2' := h.few2
  rw [hl] at h1 h2'
  refine ⟨h.ms.ff hff hBS ((hb.block sg (by omega)).trans h.ms.marks) h.ms.lenS, h.ga.pop hp, h.ff.trans hff, owns_kept h.ra (fun g hg => hb.block g (h.ra.lt g hg).2), owns_kept hrm (fun g hg => hb.block g (hrm.lt g hg).2), fun g hg => by rw [he]; exact h.ne g hg, by omega, by omega, by omega, h.mono, fun q hq => ?_⟩
  rcases h.mores q hq with h3 | h3
  · exact .inl h3
  · simp at h3
    rcases h3 with h3 | rfl
    · exact .inr h3
    · exact .inl hp

theorem FoldSt.marked {BS BD m pg cap sg : Nat} {P : List Pl} {AS : List Value} {T : Nat → Prop} {now C : Nat} {w0 : World} {seen0 more0 : List Nat} {gk : Nat} {av mv av' mv' : Value} {wr w8 : World} {at_ mm seen : List Nat} {p : Nat} {pl : Pl}
    (h : FoldSt BS BD m pg cap sg P AS T now C w0 seen0 more0 gk av mv wr at_ (mm ++ [p]) seen) (hT : ∀ p pl, T p → P[p]? = some pl → ∀ q ∈ pl.also, T q) (hpl : P[p]? = some pl) (hp : seen[p]? ≠ some (now + 1)) (hBS : BS ≤ BD) (hff : FF BD sg wr w8)
    (hm : w8.heap[sg]? = some (.cells (ints (seen.set p (now + 1))).toArray 3 (0, 0))) (hra : w8.ownsRow BD 3 1 av' (at_ ++ [p]).length (ints (at_ ++ [p]))) (hrm : w8.ownsRow BD 3 1 mv' (mm ++ pl.also).length (ints (mm ++ pl.also))) (hne : ∀ g, av'.ownBlock = some g → mv'.ownBlock ≠ some g) :
    FoldSt BS BD m pg cap sg P AS T now C w0 seen0 more0 (gk - 2) av' mv' w8 (at_ ++ [p]) (mm ++ pl.also) (seen.set p (now + 1)) ∧ 2 ≤ gk := by
  have hmu := X3.muS_set P seen (now + 1) p pl hpl h.ms.lenS hp
  have h1 := h.gk
  have h2 := h.few
  have h2' := h.few2
  have hlt : p < seen.length := by rw [h.ms.lenS]; exact (List.getElem?_eq_some_iff.1 hpl).1
  have hs : ∀ q : Nat, seen[q]? = some (now + 1) → (seen.set p (now + 1))[q]? = some (now + 1) := by
    intro q hq
    by_cases e : q = p
    · subst e; exact List.getElem?_set_self hlt
    · rw [List.getElem?_set_ne (Ne.symm e)]; exact hq
  simp only [List.length_append, List.length_cons, List.length_nil] at h1 h2'
  refine ⟨⟨h.ms.ff hff hBS hm (by simp [h.ms.lenS]), X3.Gath.mark hT h.ga hpl hp, h.ff.trans hff, hra, hrm, hne, ?_, ?_, ?_, fun q hq => hs q (h.mono q hq), fun q hq => ?_⟩, by omega⟩
  · simp only [List.length_append]; omega
  · simp only [List.length_append, List.length_cons, List.length_nil]; omega
  · simp only [List.length_append]; omega
  · rcases h.mores q hq with h3 | h3
    · exact .inl (hs q h3)
    · simp at h3
      rcases h3 with h3 | rfl
      · exact .inr (by simp [h3])
      · exact .inl (List.getElem?_set_self hlt)

set_option maxRecDepth 100000 in
set_option maxHeartbeats 8000000 in
theorem fold_any (BS BD m pg cap sg : Nat) (P : List Pl) (AS : List Value) (T : Nat → Prop) (now C : Nat) (hT : ∀ p pl, T p → P[p]? = some pl → ∀ q ∈ pl.also, T q) (hTl : ∀ p, T p → p < P.length) (hnow : now ≤ 1000000) (hC : C ≤ 100000000) (hBS : BS ≤ BD) (hsg : sg < BD)
    (w : World) (hBw : BD ≤ w.heap.size) (at_ more seen : List Nat) (av mv : Value) (hms : MS BS m pg cap sg P AS seen now w) (hga : X3.Gath P T (now + 1) seen at_ more)
    (hra : w.ownsRow BD 3 1 av at_.length (ints at_)) (hrm : w.ownsRow BD 3 1 mv more.length (ints more)) (hne : ∀ g, av.ownBlock = some g → mv.ownBlock ≠ some g) (hfew : at_.length + X3.muS P seen (now + 1) ≤ C) (hfew2 : X3.muS P seen (now + 1) + more.length ≤ C + 1) (hPl : P.length ≤ 100000) :
    Calls Tryd.prog 37 #[.pointer (some ⟨m, 0, none⟩), av, mv] w (FoldP BS BD m pg cap sg P AS T now C w seen more) := by
  have hst : FoldSt BS BD m pg cap sg P AS T now C w seen more (X3.muS P seen (now + 1) + more.length) av mv w at_ more seen := ⟨hms, hga, FF.refl _ _ _, hra, hrm, hne, rfl, hfew, hfew2, fun _ h => h, fun q hq => .inr hq⟩
  have HST := hid hst
  have HT := hid hT
  have HTL := hid hTl
  clear hst hms hga hra hrm hne hfew hfew2 hT hTl
  go_enter Tryd.func37, Tryd.ntmps37
  go_wp2_with fail
  go_loopg [1, 2] (X3.muS P seen (now + 1) + more.length) (fun gk a b wr => ∃ at_ more' seen', Aside (FoldSt BS BD m pg cap sg P AS T now C w seen more gk a b wr at_ more' seen'))
  case atStart => exact ⟨at_, more, seen, HST.out⟩
  case round =>
    clear HST
    obtain ⟨at2, more2, seen2, hst⟩ := hrel
    replace hst := hst.out
    rcases List.eq_nil_or_concat more2 with rfl | ⟨mm, p, hmm⟩
    · obtain ⟨o, c, rfl⟩ : ∃ o c, u2 = .slice o 0 c := by
        rcases hst.rm.2 with ⟨rfl, _⟩ | ⟨g, cap, cur, rfl, _⟩
        · exact ⟨_, _, rfl⟩
        · exact ⟨_, _, rfl⟩
      have HS := hid hst
      clear hst
      go_wp2_with fail
      go_ret
      exact ⟨u1, at2, seen2, rfl, HS.out.ms, HS.out.ga, HS.out.ff, HS.out.ra, HS.out.few, HS.out.mono, fun q hq => by rcases HS.out.mores q hq with h | h; exact h; cases h⟩
    · rw [List.concat_eq_append] at hmm
      subst hmm
      have hTp := hst.ga.moreT p (by simp)
      have hpl := HTL.out p hTp
      obtain ⟨pl, hP⟩ : ∃ pl, P[p]? = some pl := ⟨_, List.getElem?_eq_getElem hpl⟩
      obtain ⟨avp, hA⟩ : ∃ avp, AS[p]? = some avp := ⟨_, List.getElem?_eq_getElem (by rw [hst.ms.lenA]; exact hpl)⟩
      obtain ⟨x, hx⟩ : ∃ x, seen2[p]? = some x := ⟨_, List.getElem?_eq_getElem (by rw [hst.ms.lenS]; exact hpl)⟩
      have hrm := hst.rm
      have hlen : (mm ++ [p]).length = mm.length + 1 := by simp
      have hin : ints (mm ++ [p]) = ints mm ++ [.int .i64 (p : Int)] := by simp
      rw [hlen, hin] at hrm
      obtain ⟨mg, mc, cur, rfl, hBg, hmg, hnc, hcm, hcs, htk⟩ := owns_sl hrm (by omega)
      have hpop := owns_pop hrm (by simp)
      have hfew := hst.few
      have hfew2 := hst.few2
      have hgk := hst.gk
      rw [hlen] at hfew2 hgk
      have cg : wr.cell? ⟨mg, mm.length, none⟩ = some (.int .i64 (p : Int)) := by
        have e : (cur.toList.take ((mm.length + 1) * 1))[mm.length]? = some (.int .i64 (p : Int)) := by rw [htk, List.getElem?_append_right (by simp)]; simp
        rw [List.getElem?_take, if_pos (by omega), Array.getElem?_toList] at e
        rw [Lib.cell_of_heap hmg]; exact e
      have c0 : wr.cell? ⟨m, 0, none⟩ = some (.slice (some ⟨pg, 0, none⟩) P.length cap) := by rw [Lib.cell_of_heap hst.ms.box]; rfl
      have c1 : wr.cell? ⟨m, 1, none⟩ = some (.slice (some ⟨sg, 0, none⟩) P.length P.length) := by rw [Lib.cell_of_heap hst.ms.box]; rfl
      have c2 : wr.cell? ⟨m, 2, none⟩ = some (.int .i64 (now : Int)) := by rw [Lib.cell_of_heap hst.ms.box]; rfl
      have cs : wr.cell? ⟨sg, p, none⟩ = some (.int .i64 (x : Int)) := by rw [Lib.cell_of_heap hst.ms.marks, List.getElem?_toArray]; exact ints_at hx
      have fs : wr.frozen? ⟨sg, p, none⟩ = false := Lib.frozen_of_heap hst.ms.marks p
      have hmle : mm.length ≤ 100000000 := by omega
      unfold maxLen at hcm
      have a0 : (0 : Int) ≤ (now : Int) + 1 := by omega
      have a1 : (now : Int) + 1 < 9223372036854775808 := by omega
      have b0 : (0 : Int) ≤ (p : Int) := by omega
      have b1 : (p : Int) < (P.length : Int) := by omega
      have d0 : (0 : Int) < ((mm.length + 1 : Nat) : Int) := by omega
      have d1 : ((mm.length + 1 : Nat) : Int) - 1 = (mm.length : Int) := by omega
      have d2 : (mm.length : Int) < ((mm.length + 1 : Nat) : Int) := by omega
      have d3 : (mm.length : Int) ≤ (mc : Int) := by omega
      have d4 : (0 : Int) ≤ (mm.length : Int) := by omega
      have HS := hid hst
      have HPOP := hid hpop
      clear hst hpop hrm htk hin hcs
      by_cases hxv : x = now + 1
      · have t1 : ((x : Int) == (now : Int) + 1) = true := by rw [beq_iff_eq]; omega
        go_upto_region 4 with fail
        go_quiet (fail)
        go_wp2_with fail
        have hbd : Below wr.heap.size wr (wr.drewN nq) := below_drewN (Below.refl _ _) _
        have hBw : BD ≤ wr.heap.size := by have := HS.out.ff.size; omega
        have HN := HS.out.popped (by rw [hx, hxv]) hbd hBS hBw hsg HPOP.out rfl
        go_roundg (gk - 1)
        case measure => omega
        case rel => exact ⟨at2, mm, seen2, HN⟩
      · have t1 : ((x : Int) == (now : Int) + 1) = false := by rw [beq_eq_false_iff_ne]; omega
        have hBw : BD ≤ wr.heap.size := by have := HS.out.ff.size; omega
        have hxn : seen2[p]? ≠ some (now + 1) := by rw [hx]; intro e; exact hxv (Option.some.inj e)
        go_upto_region 4 with fail
        go_quiet (fail)
        have hbd : Below wr.heap.size wr (wr.drewN nq).drew := (below_drewN (Below.refl _ _) _).drew
        obtain ⟨wd, hwd⟩ : ∃ wd, (wr.drewN nq).drew = wd := ⟨_, rfl⟩
        rw [hwd] at hbd
        have hsd : wd.heap.size = wr.heap.size := by rw [← hwd]; rfl
        have bx : ∀ g : Nat, wd.heap[g]? = wr.heap[g]? := fun g => by rw [← hwd]; rfl
        have e0 : wd.cell? ⟨m, 0, none⟩ = some (.slice (some ⟨pg, 0, none⟩) P.length cap) := (World.cell?_of_block (bx m)).trans c0
        have e1 : wd.cell? ⟨m, 1, none⟩ = some (.slice (some ⟨sg, 0, none⟩) P.length P.length) := (World.cell?_of_block (bx m)).trans c1
        have e2 : wd.cell? ⟨m, 2, none⟩ = some (.int .i64 (now : Int)) := (World.cell?_of_block (bx m)).trans c2
        have es : wd.cell? ⟨sg, p, none⟩ = some (.int .i64 (x : Int)) := (World.cell?_of_block (bx sg)).trans cs
        have gs : wd.frozen? ⟨sg, p, none⟩ = false := (World.frozen?_of_block (bx sg)).trans fs
        clear c0 c1 c2 cs fs
        go_upto_region 5 with fail
        refine region_T 11 (fun w' => w'.cell? ⟨m, 1, none⟩ = some (.slice (some ⟨sg, 0, none⟩) P.length P.length) ∧ w'.cell? ⟨m, 2, none⟩ = some (.int .i64 (now : Int))) (by kernel_rfl) (by rw [hwd]; exact ⟨e1, e2⟩) (fun inv hHeld => ?_)
        rw [hwd] at hHeld ⊢
        refine anyT_take (i := 0) (oi := { dst := some 35, op := Op.move (Operand.tmp 0), type := 79, pos := "match.go:83", after := #[], guard := none }) (v := ?_) rfl (by kernel_rfl) (by kernel_rfl) (by kernel_rfl) (by decide) (by decide) (by kernel_rfl) (by kernel_rfl) (fun _ _ _ h => h) (Or.inl ⟨by rfl, ?_⟩) hHeld inv (fun inv => ?_)
        rotate_left
        · intro w hSw
          try dsimp only at hSw
          go_simp
          try with_reducible rfl
        simp only [Act.put, List.setIfInBounds_toArray, List.set_cons_zero, List.set_cons_succ]
        refine anyT_take (i := 1) (oi := { dst := some 36, op := Op.nilCheck (Operand.tmp 35), type := 0, pos := "match.go:83", after := #[{ on := 0, ground := Ground.data }], guard := none }) (v := ?_) rfl (by kernel_rfl) (by kernel_rfl) (by kernel_rfl) (by decide) (by decide) (by kernel_rfl) (by kernel_rfl) (fun _ _ _ h => h) (Or.inl ⟨by rfl, ?_⟩) hHeld inv (fun inv => ?_)
        rotate_left
        · intro w hSw
          try dsimp only at hSw
          go_simp
          try with_reducible rfl
        simp only [Act.put, List.setIfInBounds_toArray, List.set_cons_zero, List.set_cons_succ]
        refine anyT_take (i := 2) (oi := { dst := some 37, op := Op.fieldAddr 84 (Operand.tmp 36) 1, type := 0, pos := "match.go:83", after := #[{ on := 1, ground := Ground.data }], guard := none }) (v := ?_) rfl (by kernel_rfl) (by kernel_rfl) (by kernel_rfl) (by decide) (by decide) (by kernel_rfl) (by kernel_rfl) (fun _ _ _ h => h) (Or.inl ⟨by rfl, ?_⟩) hHeld inv (fun inv => ?_)
        rotate_left
        · intro w hSw
          try dsimp only at hSw
          go_simp
          try with_reducible rfl
        simp only [Act.put, List.setIfInBounds_toArray, List.set_cons_zero, List.set_cons_succ]
        refine anyT_take (i := 3) (oi := { dst := some 38, op := Op.load 56 (Operand.tmp 37), type := 56, pos := "match.go:83", after := #[{ on := 2, ground := Ground.data }], guard := none }) (v := ?_) rfl (by kernel_rfl) (by kernel_rfl) (by kernel_rfl) (by decide) (by decide) (by kernel_rfl) (by kernel_rfl) (fun _ _ _ h => h) (Or.inl ⟨by rfl, ?_⟩) hHeld inv (fun inv => ?_)
        rotate_left
        · intro w hSw
          try dsimp only at hSw
          go_simp
          try with_reducible rfl
        simp only [Act.put, List.setIfInBounds_toArray, List.set_cons_zero, List.set_cons_succ]
        refine anyT_take (i := 4) (oi := { dst := some 39, op := Op.move (Operand.tmp 7), type := 3, pos := "match.go:83", after := #[], guard := none }) (v := ?_) rfl (by kernel_rfl) (by kernel_rfl) (by kernel_rfl) (by decide) (by decide) (by kernel_rfl) (by kernel_rfl) (fun _ _ _ h => h) (Or.inl ⟨by rfl, ?_⟩) hHeld inv (fun inv => ?_)
        rotate_left
        · intro w hSw
          try dsimp only at hSw
          go_simp
          try with_reducible rfl
        simp only [Act.put, List.setIfInBounds_toArray, List.set_cons_zero, List.set_cons_succ]
        refine anyT_take (i := 5) (oi := { dst := some 40, op := Op.move (Operand.tmp 0), type := 79, pos := "match.go:83", after := #[], guard := none }) (v := ?_) rfl (by kernel_rfl) (by kernel_rfl) (by kernel_rfl) (by decide) (by decide) (by kernel_rfl) (by kernel_rfl) (fun _ _ _ h => h) (Or.inl ⟨by rfl, ?_⟩) hHeld inv (fun inv => ?_)
        rotate_left
        · intro w hSw
          try dsimp only at hSw
          go_simp
          try with_reducible rfl
        simp only [Act.put, List.setIfInBounds_toArray, List.set_cons_zero, List.set_cons_succ]
        refine anyT_take (i := 6) (oi := { dst := some 41, op := Op.nilCheck (Operand.tmp 40), type := 0, pos := "match.go:83", after := #[{ on := 5, ground := Ground.data }], guard := none }) (v := ?_) rfl (by kernel_rfl) (by kernel_rfl) (by kernel_rfl) (by decide) (by decide) (by kernel_rfl) (by kernel_rfl) (fun _ _ _ h => h) (Or.inl ⟨by rfl, ?_⟩) hHeld inv (fun inv => ?_)
        rotate_left
        · intro w hSw
          try dsimp only at hSw
          go_simp
          try with_reducible rfl
        simp only [Act.put, List.setIfInBounds_toArray, List.set_cons_zero, List.set_cons_succ]
        refine anyT_take (i := 7) (oi := { dst := some 42, op := Op.fieldAddr 84 (Operand.tmp 41) 2, type := 0, pos := "match.go:83", after := #[{ on := 6, ground := Ground.data }], guard := none }) (v := ?_) rfl (by kernel_rfl) (by kernel_rfl) (by kernel_rfl) (by decide) (by decide) (by kernel_rfl) (by kernel_rfl) (fun _ _ _ h => h) (Or.inl ⟨by rfl, ?_⟩) hHeld inv (fun inv => ?_)
        rotate_left
        · intro w hSw
          try dsimp only at hSw
          go_simp
          try with_reducible rfl
        simp only [Act.put, List.setIfInBounds_toArray, List.set_cons_zero, List.set_cons_succ]
        refine anyT_take (i := 8) (oi := { dst := some 43, op := Op.load 3 (Operand.tmp 42), type := 3, pos := "match.go:83", after := #[{ on := 7, ground := Ground.data }], guard := none }) (v := ?_) rfl (by kernel_rfl) (by kernel_rfl) (by kernel_rfl) (by decide) (by decide) (by kernel_rfl) (by kernel_rfl) (fun _ _ _ h => h) (Or.inl ⟨by rfl, ?_⟩) hHeld inv (fun inv => ?_)
        rotate_left
        · intro w hSw
          try dsimp only at hSw
          go_simp
          try with_reducible rfl
        simp only [Act.put, List.setIfInBounds_toArray, List.set_cons_zero, List.set_cons_succ]
        refine anyT_take (i := 9) (oi := { dst := some 44, op := Op.binOp BinOp.add 3 (Operand.tmp 43) (Operand.const (Value.int IntKind.i64 1)) 3, type := 3, pos := "match.go:83", after := #[{ on := 8, ground := Ground.data }], guard := none }) (v := ?_) rfl (by kernel_rfl) (by kernel_rfl) (by kernel_rfl) (by decide) (by decide) (by kernel_rfl) (by kernel_rfl) (fun _ _ _ h => h) (Or.inl ⟨by rfl, ?_⟩) hHeld inv (fun inv => ?_)
        rotate_left
        · intro w hSw
          try dsimp only at hSw
          go_simp
          try with_reducible rfl
        simp only [Act.put, List.setIfInBounds_toArray, List.set_cons_zero, List.set_cons_succ]
        refine anyT_take (i := 10) (oi := { dst := some 45, op := Op.indexAddr 56 (Operand.tmp 38) (Operand.tmp 39), type := 0, pos := "match.go:83", after := #[{ on := 3, ground := Ground.data }, { on := 4, ground := Ground.data }, { on := 0, ground := Ground.phase }, { on := 1, ground := Ground.phase }, { on := 2, ground := Ground.phase }, { on := 3, ground := Ground.phase }, { on := 4, ground := Ground.phase }, { on := 5, ground := Ground.phase }, { on := 6, ground := Ground.phase }, { on := 7, ground := Ground.phase }, { on := 8, ground := Ground.phase }, { on := 9, ground := Ground.phase }], guard := none }) (v := ?_) rfl (by kernel_rfl) (by kernel_rfl) (by kernel_rfl) (by decide) (by decide) (by kernel_rfl) (by kernel_rfl) (fun _ _ _ h => h) (Or.inl ⟨by rfl, ?_⟩) hHeld inv (fun inv => ?_)
        rotate_left
        · intro w hSw
          try dsimp only at hSw
          go_simp
          try with_reducible rfl
        simp only [Act.put, List.setIfInBounds_toArray, List.set_cons_zero, List.set_cons_succ]
        have hmk := (bx sg).trans HS.out.ms.marks
        obtain ⟨w5, e5⟩ : ∃ w5, wd.setCell ⟨sg, p, none⟩ (.int .i64 ((now : Int) + 1)) = w5 := ⟨_, rfl⟩
        have hm5 : w5.heap[sg]? = some (.cells (ints (seen2.set p (now + 1))).toArray 3 (0, 0)) := by
          rw [← e5, heap_setCell_same wd sg p _ 3 _ hmk]
          congr 2
          simp [ints, List.map_set]
        have g5 : ∀ g : Nat, g ≠ sg → w5.heap[g]? = wr.heap[g]? := fun g hg => by rw [← e5]; exact (Below.heap_setCell wd ⟨sg, p, none⟩ _ g hg).trans (bx g)
        have s5 : w5.heap.size = wr.heap.size := by rw [← e5]; simp [hsd]
        have o5 : w5.os = wr.os ∧ w5.tape = wr.tape ∧ w5.output = wr.output := by rw [← e5]; exact ⟨hbd.os, hbd.tape, hbd.output⟩
        have hwr : IntKind.i64.wrap ((now : Int) + 1) = (now : Int) + 1 := by rw [IntKind.wrap_i64]; omega
        refine anyT_one (i := 11) (o := { dst := none, op := Op.store 3 (Operand.tmp 45) (Operand.tmp 44), type := 0, pos := "match.go:83", after := #[{ on := 10, ground := Ground.data }, { on := 9, ground := Ground.data }, { on := 0, ground := Ground.phase }, { on := 1, ground := Ground.phase }, { on := 2, ground := Ground.phase }, { on := 3, ground := Ground.phase }, { on := 4, ground := Ground.phase }, { on := 5, ground := Ground.phase }, { on := 6, ground := Ground.phase }, { on := 7, ground := Ground.phase }, { on := 8, ground := Ground.phase }, { on := 9, ground := Ground.phase }], guard := none }) (by kernel_rfl) rfl (fun K' hK => ?_)
        go_simp
        refine hK.out _ _ (fun h => absurd h (by decide)) ?_
        clear hK K'
        try simp only [Act.put, List.setIfInBounds_toArray, List.set_cons_zero, List.set_cons_succ]
        refine anyT_done (by kernel_rfl) ?_ _
        clear hwr
        have hF5 : FF BD sg wr w5 := ⟨o5.1, o5.2.1, o5.2.2, by omega, fun g hg hn => g5 g hn⟩
        have hra5 : w5.ownsRow BD 3 1 u1 at2.length (ints at2) := owns_kept HS.out.ra (fun g hg => g5 g (by have := (HS.out.ra.lt g hg).1; omega))
        have hrm5 : w5.ownsRow BD 3 1 (.slice (some ⟨mg, 0, none⟩) mm.length mc) mm.length (ints mm) := owns_kept HPOP.out (fun g hg => g5 g (by have := (HPOP.out.lt g hg).1; omega))
        have hfa : at2.length ≤ 100000000 := by omega
        obtain ⟨i0, hi, hq0, hq1, hq2⟩ := info_parts info3
        clear e0 e1 e2 es gs hwd hmk inv hHeld e5 bx g5 o5 hbd hsd
        have HF5 := hid hF5
        have HM5 := hid hm5
        have HRM5 := hid hrm5
        clear hF5 hm5
        obtain ⟨w6, e6⟩ : ∃ w6, w5.alloc (.cells #[.int .i64 (p : Int)] 3) = w6 := ⟨_, rfl⟩
        have hb6 : Below w5.heap.size w5 w6 := by rw [← e6]; exact (Below.refl _ _).alloc (Nat.le_refl _) _
        have hn6 : w6.heap[w5.heap.size]? = some (.cells #[.int .i64 (p : Int)] 3 (0, 0)) := by rw [← e6]; exact new_block _ _
        have s6 : w6.heap.size = w5.heap.size + 1 := by rw [← e6]; simp
        have hra6 := owns_kept hra5 (fun g hg => hb6.block g (hra5.lt g hg).2)
        have hrm6 := owns_kept hrm5 (fun g hg => hb6.block g (hrm5.lt g hg).2)
        go_wp2_with (at_builtin; refine wpList_append_own_at _ rfl (.tmp 46) (.tmp 48) 56 rfl BD 3 i0 (.int .i64 0) 1 8 Tryd.underlying56 hi hq0 hq1 hq2 rfl (by decide) u1 at2.length (ints at2) rfl hra6 ⟨w5.heap.size, 0, none⟩ 1 1 [.int .i64 (p : Int)] ?c0 rfl ?c1 ?c2 ?c3 ?c4 ?c5 ?_)
        case c0 => first | rfl | simp [Act.eval, s5]
        case c1 =>
          intro j v hj
          have := Lib.cell_of_heap hn6 j
          rw [show (⟨w5.heap.size, 0, none⟩ : Addr).add j = ⟨w5.heap.size, j, none⟩ by simp [Addr.add]; omega]
          rw [this, ← hj]
          simp
        case c2 => intro v hv; simp at hv; rcases hv with rfl; rfl
        case c3 => unfold maxLen; omega
        case c4 => omega
        case c5 => omega
        intro av' w7 hown7 hgrow7 hnil7 hat7
        have s7 := hgrow7.size
        have hra7 : w7.ownsRow BD 3 1 av' (at2 ++ [p]).length (ints (at2 ++ [p])) := by rw [List.length_append, ints_app]; exact hown7
        have hav7 : av'.ownBlock = u1.ownBlock ∨ av'.ownBlock = some (wr.heap.size + 1) := hat7
        have hnem : ∀ g, u1.ownBlock = some g → g ≠ mg := fun g hg e => HS.out.ne g hg (by rw [e]; rfl)
        have hrm7 : w7.ownsRow BD 3 1 (.slice (some ⟨mg, 0, none⟩) mm.length mc) mm.length (ints mm) := owns_kept hrm6 (fun g hg => by
          obtain rfl := Option.some.inj hg
          exact hgrow7.block mg (hrm6.lt mg rfl).2 (fun e => hnem mg e.symm rfl))
        have hb67 : Below BD w6 w7 := (Below.refl BD w6).grown hgrow7 (by omega) (fun q hq => (hra6.lt q hq).1)
        have hF7 : FF BD sg wr w7 := HF5.out.trans (FF.ofBelow ((hb6.mono (by omega)).trans hb67))
        have hm7 : w7.heap[sg]? = some (.cells (ints (seen2.set p (now + 1))).toArray 3 (0, 0)) := (hb67.block sg hsg).trans ((hb6.block sg (by omega)).trans HM5.out)
        have hms7 := HS.out.ms.ff (seen' := seen2.set p (now + 1)) hF7 hBS hm7 (by simp [HS.out.ms.lenS])
        have c0 : w7.cell? ⟨m, 0, none⟩ = some (.slice (some ⟨pg, 0, none⟩) P.length cap) := by rw [Lib.cell_of_heap hms7.box]; rfl
        have c7 : w7.cell? ⟨pg, p * 8 + 7, none⟩ = some avp := (hms7.pls p pl avp hP hA 7 (by decide)).trans (plc7 _ _)
        have hcap := hms7.cap_
        have hal := X3.muS_set P seen2 (now + 1) p pl hP HS.out.ms.lenS hxn
        have hfewn : mm.length + pl.also.length ≤ 100000000 := by omega
        have HG := hid hgk
        have HRA := hid hra7
        have HRM := hid hrm7
        have HMS := hid hms7
        have HF7 := hid hF7
        have HM7 := hid hm7
        have HAV := hid hav7
        have HNE := hid hnem
        clear hra7 hrm7 hms7 hF7 hm7 hav7 hnem hown7 hgrow7 hnil7 hat7 hra5 hrm5 hra6 hrm6 hb6 hb67 hgk e6 hn6
        rcases HMS.out.also p pl avp hP hA with ⟨hnil, rfl⟩ | ⟨ag, ac, rfl, hag, hags, hcell⟩
        · have HN := hid hnil
          clear hnil
          go_wp2_with (at_builtin; refine wpList_append_own_none rfl (.tmp 50) (.tmp 58) 56 rfl BD 3 i0 1 Tryd.underlying56 hi _ mm.length (ints mm) rfl HRM.out rfl ?_)
          go_wp2_with fail
          have hmk := HS.out.marked HT.out hP hxn hBS HF7.out HM7.out HRA.out (mv' := .slice (some ⟨mg, 0, none⟩) mm.length mc) (by rw [HN.out, List.append_nil]; exact HRM.out) (fun g hg e => by
              have e1 : mg = g := Option.some.inj e
              rcases HAV.out with h | h
              · exact HNE.out g (by rw [← h]; exact hg) e1.symm
              · rw [h] at hg; have := Option.some.inj hg; have := (HRM.out.lt mg rfl).2; have h9 := (HPOP.out.lt mg rfl).2; omega)
          have h2 := hmk.2
          go_roundg (gk - 2)
          case measure => omega
          case rel => exact ⟨_, _, _, hmk.1⟩
        · have HCELL := hid hcell
          clear hcell
          go_wp2_with (at_builtin; refine wpList_append_own_at _ rfl (.tmp 50) (.tmp 58) 56 rfl BD 3 i0 (.int .i64 0) 1 8 Tryd.underlying56 hi hq0 hq1 hq2 rfl (by decide) _ mm.length (ints mm) rfl HRM.out ⟨ag, 0, none⟩ pl.also.length ac (ints pl.also) rfl (by simp) ?c1 ?c2 ?c3 ?c4 ?c5 ?_)
          case c1 =>
            intro j v hj
            rw [show (⟨ag, 0, none⟩ : Addr).add j = ⟨ag, j, none⟩ by simp [Addr.add]; omega]
            rw [List.getElem?_map] at hj
            cases hq : pl.also[j]? with
            | none => rw [hq] at hj; cases hj
            | some q => rw [hq] at hj; simp at hj; subst hj; exact HCELL.out j q hq
          case c2 => intro v hv; simp at hv; obtain ⟨q, _, rfl⟩ := hv; rfl
          case c3 => unfold maxLen; omega
          case c4 => omega
          case c5 => omega
          intro mv' w8 hown8 hgrow8 hnil8 hat8
          have hb78 : Below BD w7 w8 := (Below.refl BD w7).grown hgrow8 (by omega) (fun q hq => (HRM.out.lt q hq).1)
          have hra8 := owns_kept HRA.out (fun g hg => hgrow8.block g (HRA.out.lt g hg).2 (fun e => by
              have e1 : g = mg := Option.some.inj e
              rcases HAV.out with h | h
              · exact HNE.out g (by rw [← h]; exact hg) e1
              · rw [h] at hg; have := Option.some.inj hg; have h9 := (HPOP.out.lt mg rfl).2; omega))
          have hmk := HS.out.marked HT.out hP hxn hBS (HF7.out.trans (FF.ofBelow hb78)) ((hb78.block sg hsg).trans HM7.out) hra8 (mv' := mv') (by rw [List.length_append, ints_app]; exact hown8) (fun g hg e => by
              rcases hat8 with h8 | h8
              · rw [h8] at e
                have e1 : mg = g := Option.some.inj e
                rcases HAV.out with h | h
                · exact HNE.out g (by rw [← h]; exact hg) e1.symm
                · rw [h] at hg; have := Option.some.inj hg; have h9 := (HPOP.out.lt mg rfl).2; omega
              · rw [h8] at e; have e1 := Option.some.inj e; have := (HRA.out.lt g hg).2; omega)
          have HMK := hid hmk
          clear hmk hown8 hgrow8 hnil8 hat8 hra8
          go_wp2_with fail
          have h2 := HMK.out.2
          go_roundg (gk - 2)
          case measure => omega
          case rel => exact ⟨_, _, _, HMK.out.1⟩

end Go.Proofs.YtochckefnjobhaaDoor.RM

/- regex's matcher: what its places hold; which ones are come to. -/
namespace Go.Proofs.X3
set_option linter.unusedVariables false
def okB (b : RX) : Prop := b = .empty ∨ ∃ x y z u, b = .bytes x y z u ∧ x < 2 ^ 64 ∧ y < 2 ^ 64 ∧ z < 2 ^ 64 ∧ u < 2 ^ 64
mutual
def wd : RX → Prop
  | .empty => True
  | .bytes x y z u => x < 2 ^ 64 ∧ y < 2 ^ 64 ∧ z < 2 ^ 64 ∧ u < 2 ^ 64
  | .cat l => wdL l
  | .alt l => wdL l
  | .star r => wd r
def wdL : List RX → Prop
  | [] => True
  | r :: l => wd r ∧ wdL l
end
def OkP (P : List Pl) : Prop := ∀ (k : Nat) (pl : Pl), P[k]? = some pl → okB pl.b
theorem OkP.app {P : List Pl} (h : OkP P) {pl : Pl} (hp : okB pl.b) : OkP (P ++ [pl]) := by
  intro k q hq
  by_cases hlt : k < P.length
  · rw [List.getElem?_append_left hlt] at hq; exact h k q hq
  · rw [List.getElem?_append_right (by omega)] at hq
    cases e : k - P.length with
    | zero => rw [e] at hq; simp at hq; subst hq; exact hp
    | succ n => rw [e] at hq; simp at hq
theorem OkP.add {P : List Pl} (h : OkP P) (a f : Nat) : OkP (addAlso P a f) := by
  intro k q hq
  by_cases e : k = a
  · subst e
    cases hP : P[k]? with
    | none => unfold addAlso at hq; rw [List.getElem?_modify, hP] at hq; cases hq
    | some y => rw [addAlso_at P hP] at hq; obtain rfl := Option.some.inj hq; exact h k y hP
  · rw [addAlso_ne P e] at hq; exact h k q hq
theorem OkP.set {P : List Pl} (h : OkP P) (a : Nat) (l : List Nat) : OkP (setAlso P a l) := by
  intro k q hq
  by_cases e : k = a
  · subst e
    cases hP : P[k]? with
    | none => unfold setAlso at hq; rw [List.getElem?_modify, hP] at hq; cases hq
    | some y => rw [setAlso_at P hP] at hq; obtain rfl := Option.some.inj hq; exact h k y hP
  · rw [setAlso_ne P e] at hq; exact h k q hq
mutual
theorem lay_ok : ∀ (r : RX) (b : Nat) (P : List Pl), wd r → OkP P → OkP (layX r b P).2
  | .empty, b, P, _, h => h
  | .bytes x y z u, b, P, hw, h => by simp only [layX]; exact h.app (.inr ⟨x, y, z, u, rfl, hw⟩)
  | .cat l, b, P, hw, h => layCat_ok l b P hw h
  | .alt l, b, P, hw, h => by simp only [layX]; exact layAlt_ok l P.length b (P ++ [none_]) hw (h.app (.inl rfl))
  | .star r, b, P, hw, h => by simp only [layX]; exact (lay_ok r P.length (P ++ [none_]) hw (h.app (.inl rfl))).set _ _
theorem layCat_ok : ∀ (l : List RX) (b : Nat) (P : List Pl), wdL l → OkP P → OkP (layCat l b P).2
  | [], b, P, _, h => h
  | r :: l, b, P, hw, h => by simp only [layCat]; exact lay_ok r _ _ hw.1 (layCat_ok l b P hw.2 h)
theorem layAlt_ok : ∀ (l : List RX) (a b : Nat) (P : List Pl), wdL l → OkP P → OkP (layAlt l a b P)
  | [], a, b, P, _, h => h
  | r :: l, a, b, P, hw, h => by simp only [layAlt]; exact layAlt_ok l a b _ hw.2 ((lay_ok r b P hw.1 h).add _ _)
end
theorem eps_lt {P : List Pl} (h : Bd P P.length) {p q : Nat} (he : Eps P p q) (hp : p < P.length) : q < P.length := by
  induction he with
  | refl => exact hp
  | step p q r pl h1 hq _ ih => exact ih ((h pl (List.mem_iff_getElem?.2 ⟨p, h1⟩)).2 q hq)
theorem reach_lt {P : List Pl} (h : Bd P P.length) {f p : Nat} {s : List UInt8} (hf : f < P.length) (hr : Reach P f s p) : p < P.length := by
  cases hr with
  | start _ he => exact eps_lt h he hf
  | step s x p' _ pl hp h1 hx hq => exact eps_lt h hq ((h pl (List.mem_iff_getElem?.2 ⟨p', h1⟩)).1)
end Go.Proofs.X3
namespace Go.Proofs.YtochckefnjobhaaDoor.RM
open Go Go.RowKit Go.Lib
open X3 (RX Pl)
set_option linter.unusedVariables false
mutual
theorem RepS.wd {S : Nat → Prop} {w : World} : ∀ {r : RX} {v : Value}, RepS S w r v → X3.wd r
  | _, _, .empty => trivial
  | _, _, .bytes x y z u hx hy hz hu => ⟨hx, hy, hz, hu⟩
  | _, _, .cat l g cap h hc hn hw h0 => RepLS.wd h
  | _, _, .alt l g cap h hc hn hw h0 => RepLS.wd h
  | _, _, .star r g cap h hc hn hw => (RepLS.wd h).1
theorem RepLS.wd {S : Nat → Prop} {w : World} {g : Nat} : ∀ {l : List RX} {j : Nat}, RepLS S w l g j → X3.wdL l
  | _, _, .nil _ _ => trivial
  | _, _, .cons r l _ j k x y z u kv h c0 c1 c2 c3 c4 c5 h2 => ⟨RepS.wd h, RepLS.wd h2⟩
end
theorem okB_rep {b : RX} (h : X3.okB b) (w : World) : RepS (fun _ => False) w b (nodeOf b) := by
  rcases h with rfl | ⟨x, y, z, u, rfl, h1, h2, h3, h4⟩
  · exact .empty
  · exact .bytes x y z u h1 h2 h3 h4

/-- What was laid, ready to be gathered. -/
theorem MRep.ready {B m : Nat} {w w' : World} {pg n cap : Nat} {AS : List Value} {P : List Pl} (h : MRep B m w (.slice (some ⟨pg, 0, none⟩) n cap) AS P) (hb : ∀ g, g < w.heap.size → g ≠ m → w'.heap[g]? = w.heap[g]?)
    (hbox : w'.heap[m]? = some (.cells #[.slice (some ⟨pg, 0, none⟩) n cap, .slice (some ⟨w.heap.size, 0, none⟩) P.length P.length, .int .i64 0] 84 (0, 0)))
    (hmk : w'.heap[w.heap.size]? = some (.cells (ints (List.replicate P.length 0)).toArray 3 (0, 0))) :
    MS w.heap.size m pg cap w.heap.size P AS (List.replicate P.length 0) 0 w' := by
  have hml : m < w.heap.size := (Array.getElem?_eq_some_iff.1 h.box).1
  have hpl := (h.row.lt pg rfl).2
  have hpm : pg ≠ m := fun e => h.apm (congrArg some e)
  have hn : n = P.length ∧ n ≤ cap := by
    rcases h.row.2 with ⟨hv, _⟩ | ⟨g, cap', cur, hv, _, _, hc, _⟩
    · cases hv
    · injection hv with h1 h2 h3; subst h3; exact ⟨h2, by omega⟩
  obtain ⟨rfl, hc⟩ := hn
  refine ⟨hbox, fun k pl av h1 h2 j hj => ?_, h.lenA, fun k pl av h1 h2 => ?_, hmk, by simp, hc, hml, hpl, by omega, by omega⟩
  · rw [World.cell?_of_block (w := w) (hb pg hpl hpm)]
    exact (h.cellat h1 h2).1 j hj
  · rcases (h.also k pl av h1 h2).2 with ⟨rfl, h3⟩ | ⟨g, c, cur, rfl, hB, hg, hcc, hcm, hs, ht⟩
    · exact .inl ⟨List.eq_nil_of_length_eq_zero h3, rfl⟩
    · have hgl := (Array.getElem?_eq_some_iff.1 hg).1
      have hgm := (h.ap1 k _ g h2 rfl).1
      refine .inr ⟨g, c, rfl, hgl, by omega, fun j q hq => ?_⟩
      rw [World.cell?_of_block (w := w) (hb g hgl hgm), Lib.cell_of_heap hg]
      have hlt : j < pl.also.length := (List.getElem?_eq_some_iff.1 hq).1
      have e : (cur.toList.take (pl.also.length * 1))[j]? = some (.int .i64 (q : Int)) := by rw [ht]; exact ints_at hq
      rw [List.getElem?_take, if_pos (by omega), Array.getElem?_toList] at e
      exact e

end Go.Proofs.YtochckefnjobhaaDoor.RM

/- regex.Match. -/
namespace Go.Proofs.X3
open Classical in
/-- Does a regex match a text? -/
noncomputable def mtB (r : RX) (s : List UInt8) : Bool := decide (Mt r s)
theorem mtB_iff (r : RX) (s : List UInt8) : mtB r s = true ↔ Mt r s := @decide_eq_true_iff _ (Classical.propDecidable _)
end Go.Proofs.X3
namespace Go.Proofs.YtochckefnjobhaaDoor.RM
open Go Go.RowKit Go.Lib
open X3 (RX Pl)
set_option linter.unusedVariables false
set_option linter.unusedSimpArgs false

theorem MS.now_ {BS m pg cap sg : Nat} {P : List Pl} {AS : List Value} {seen : List Nat} {now : Nat} {w : World} (h : MS BS m pg cap sg P AS seen now w) (now' : Nat) (hpm : pg ≠ m) (ham : ∀ (k : Nat) (av : Value), AS[k]? = some av → av.ownBlock ≠ some m) :
    MS BS m pg cap sg P AS seen now' (w.setCell ⟨m, 2, none⟩ (.int .i64 (now' : Int))) := by
  have hs : ∀ g : Nat, g ≠ m → (w.setCell ⟨m, 2, none⟩ (.int .i64 (now' : Int))).heap[g]? = w.heap[g]? := fun g hg => Below.heap_setCell w ⟨m, 2, none⟩ _ g hg
  refine ⟨?_, fun k pl av h1 h2 j hj => (World.cell?_of_block (hs pg hpm)).trans (h.pls k pl av h1 h2 j hj), h.lenA, fun k pl av h1 h2 => ?_, (hs sg (Ne.symm h.m_ne)).trans h.marks, h.lenS, h.cap_, h.m_lt, h.pg_lt, h.m_ne, h.pg_ne⟩
  · rw [heap_setCell_same w m 2 _ 84 _ h.box]; rfl
  · rcases h.also k pl av h1 h2 with h3 | ⟨g, c, rfl, hg, hne, hq⟩
    · exact .inl h3
    · exact .inr ⟨g, c, rfl, hg, hne, fun j q hjq => (World.cell?_of_block (hs g (fun e => ham k _ h2 (congrArg some e)))).trans (hq j q hjq)⟩

theorem owns_mono {w : World} {B B' : Nat} {e : TypeId} {sz : Nat} {v : Value} {n : Nat} {xs : List Value} (h : w.ownsRow B e sz v n xs) (hB : B' ≤ B) : w.ownsRow B' e sz v n xs := by
  refine ⟨h.1, h.2.imp id ?_⟩
  rintro ⟨g, cap, cur, hv, hb, rest⟩
  exact ⟨g, cap, cur, hv, by omega, rest⟩
theorem made_ints (n : Nat) : madeCells #[.int .i64 0] n = (ints (List.replicate n 0)).toArray := by
  unfold madeCells ints
  apply Array.ext
  · simp
  · intro i h1 h2
    simp [Nat.mod_one]

/-- What a round of Match's outer loop begins with. -/
structure MOut (B B0 BS m pg cap sg : Nat) (P : List Pl) (AS : List Value) (f : Nat) (s : List UInt8) (w : World) (k : Nat) (A seen : List Nat) (av : Value) (wr : World) : Prop where
  ms : MS BS m pg cap sg P AS seen k wr
  ga : X3.Gath P (X3.Reach P f (s.take k)) (k + 1) seen A []
  hA : ∀ q, q ∈ A ↔ X3.Reach P f (s.take k) q
  row : wr.ownsRow B0 3 1 av A.length (ints A)
  few : A.length + X3.muS P seen (k + 1) ≤ X3.muL P
  bl : Below B w wr
  sz : B0 ≤ wr.heap.size

/-- And of its inner loop. -/
structure MIn (B0 BD BS m pg cap sg : Nat) (P : List Pl) (AS : List Value) (f : Nat) (s : List UInt8) (x : UInt8) (wA : World) (k j : Nat) (A N seen : List Nat) (nv : Value) (wi : World) : Prop where
  ms : MS BS m pg cap sg P AS seen (k + 1) wi
  ga : X3.Gath P (X3.Reach P f (s.take k ++ [x])) (k + 2) seen N []
  row : wi.ownsRow BD 3 1 nv N.length (ints N)
  few : N.length + X3.muS P seen (k + 2) ≤ X3.muL P
  ff : FF BD sg wA wi
  all : ∀ (i p : Nat) (pl : Pl), i < j → A[i]? = some p → P[p]? = some pl → X3.hasX pl.b x.toNat = true → seen[pl.next]? = some (k + 2)

theorem match_any0 : True := trivial

set_option maxRecDepth 100000 in
set_option maxHeartbeats 8000000 in
theorem match_any (S : Nat → Prop) (w : World) (r : RX) (v : Value) (s : ByteArray) (hR0 : RepS S w r v) (hsz : r.size ≤ 1000) (hs : s.size ≤ 1000) :
    Calls Tryd.prog 18 #[v, .string s] w fun e w' => e = .returned (.bool (X3.mtB r (LL s))) ∧ Below w.heap.size w w' := by
  have hR : RepS (fun g => g < w.heap.size) w r v := hR0.monoS (fun g _ hg => hg)
  clear hR0
  have hwd := RepS.wd hR
  obtain ⟨ka, kx, ky, kz, ku, ko, kn, kc, rfl⟩ := hR.shape
  obtain ⟨w0, e0⟩ : ∃ w0, ((w.alloc (.cells #[.int .i64 ka, .int .u64 kx, .int .u64 ky, .int .u64 kz, .int .u64 ku, .slice ko kn kc] 38)).alloc (.cells #[.int .i64 0, .int .u64 0, .int .u64 0, .int .u64 0, .int .u64 0, noKids, .int .i64 0, .slice none 0 0] 81)).alloc (.cells #[.slice (some ⟨w.heap.size + 1, 0, none⟩) 1 1, .slice none 0 0, .int .i64 0] 84) = w0 := ⟨_, rfl⟩
  have hb0 : Below w.heap.size w w0 := by rw [← e0]; exact (below_two _ _ _).alloc (by simp; omega) _
  have hz0 : w0.heap[w.heap.size]? = some (.cells #[.int .i64 ka, .int .u64 kx, .int .u64 ky, .int .u64 kz, .int .u64 ku, .slice ko kn kc] 38 (0, 0)) := by rw [← e0]; exact (Below.heap_alloc _ _ _ (by simp; omega)).trans ((Below.heap_alloc _ _ _ (by simp)).trans (new_block _ _))
  have hp0 : w0.heap[w.heap.size + 1]? = some (.cells #[.int .i64 0, .int .u64 0, .int .u64 0, .int .u64 0, .int .u64 0, noKids, .int .i64 0, .slice none 0 0] 81 (0, 0)) := by rw [← e0]; exact (Below.heap_alloc _ _ _ (by simp)).trans (new_block2 _ _ _)
  have hm0 : w0.heap[w.heap.size + 1 + 1]? = some (.cells #[.slice (some ⟨w.heap.size + 1, 0, none⟩) 1 1, .slice none 0 0, .int .i64 0] 84 (0, 0)) := by rw [← e0]; exact new_block3 _ _ _ _
  have hs0 : w0.heap.size = w.heap.size + 1 + 1 + 1 := by rw [← e0]; simp
  have hM0 : MRep w.heap.size (w.heap.size + 1 + 1) w0 (.slice (some ⟨w.heap.size + 1, 0, none⟩) 1 1) [.slice none 0 0] [X3.none_] := by
    refine ⟨hm0, by omega, ⟨rfl, .inr ⟨w.heap.size + 1, 1, _, rfl, by omega, hp0, Nat.le_refl _, by decide, rfl, rfl⟩⟩, rfl, ?_, ?_, ?_, fun e => by have := Option.some.inj e; simp at this⟩
    · intro k pl av h1 h2
      match k, h1, h2 with
      | 0, h1, h2 => simp at h1 h2; subst h1 h2; exact World.ownsRow_nil _ _ _ _
    · intro k av g hk hg
      match k, hk with
      | 0, hk => simp at hk; subst hk; cases hg
    · intro i j a b g hi hj ha
      match i, hi with
      | 0, hi => simp at hi; subst hi; cases ha
  have hBd0 : X3.Bd [X3.none_] [X3.none_].length := by intro pl hp; simp at hp; subst hp; exact ⟨by decide, by simp [X3.none_]⟩
  have KI := hid (lay_any (fun g => g < w.heap.size) w.heap.size (w.heap.size + 1 + 1) (fun g hg => hg) _ r w0 _ 0 _ _ _ (Nat.le_refl _) (hR.kept (keepS_below hb0)) hM0 (by simp) hBd0 (by simp; omega) (by simp [X3.muL, X3.none_]; omega) (by omega))
  have HSND := hid (X3.lay_sound r 0 [X3.none_] hBd0 (by simp))
  have HMT := hid (fun t => X3.reach_match r t)
  have HOK := hid (X3.lay_ok r 0 [X3.none_] hwd (by intro k pl hp; cases k with | zero => simp at hp; subst hp; exact .inl rfl | succ k => simp at hp))
  have HZP := hid (X3.places_zero r)
  unfold X3.placesX at HZP
  unfold X3.placesX X3.firstX at HMT
  generalize hLX : X3.layX r 0 [X3.none_] = LX at *
  clear hLX
  obtain ⟨f, P⟩ := LX
  replace HMT : Hid (∀ t, X3.Reach P f t 0 ↔ X3.Mt r t) := HMT
  replace HSND : Hid (X3.Sound [X3.none_] P f r.size) := HSND
  replace HOK : Hid (X3.OkP P) := HOK
  have HM0 := hid hM0
  have hPl : P.length ≤ 1001 := by have := HSND.out.len; simp at this; omega
  have hmuP : X3.muL P ≤ 4001 := by have := HSND.out.mu; simp [X3.muL, X3.none_] at this; simp only [X3.muL]; omega
  have hP0 : 0 < P.length := by have := HSND.out.lt; omega
  have hmake := run_make_row' (P := Tryd.prog) 56 3 (.int .i64 0) 8 Tryd.underlying56 info3 rfl .i64 .i64 P.length (by omega) (by omega)
  obtain ⟨p0, p1, p2, p3, p4, p5⟩ := cells6 hz0
  have hT : ∀ t p pl, X3.Reach P f t p → P[p]? = some pl → ∀ q ∈ pl.also, X3.Reach P f t q := fun t p pl => X3.reach_also p pl
  have hTl : ∀ t p, X3.Reach P f t p → p < P.length := fun t p h => X3.reach_lt HSND.out.bd HSND.out.lt h
  have HT := hid hT
  have HTL := hid hTl
  clear hT hTl hM0 hR hp0 hm0 hwd hBd0
  go_enter Tryd.func18, Tryd.ntmps18
  go_wp2_with fail
  refine KI.out.mono ?_
  rintro e w1 ⟨pv1, AS, rfl, hM1, hF1⟩
  replace hM1 : MRep w.heap.size (w.heap.size + 1 + 1) w1 pv1 AS P := hM1
  obtain ⟨pg, cap, rfl⟩ := hM1.sl hP0
  have hs1 := hF1.size
  have cm : w1.cell? ⟨w.heap.size + 1 + 1, 0, none⟩ = some (.slice (some ⟨pg, 0, none⟩) P.length cap) := by rw [Lib.cell_of_heap hM1.box]; rfl
  have hB1 : Below w.heap.size w w1 := hb0.trans (hF1.below HM0.out (by omega))
  obtain ⟨w2, e2⟩ : ∃ w2, w1.alloc (.cells (madeCells #[.int .i64 0] P.length) 3) = w2 := ⟨_, rfl⟩
  have hb2 : Below w1.heap.size w1 w2 := by rw [← e2]; exact (Below.refl _ _).alloc (Nat.le_refl _) _
  have hn2 : w2.heap[w1.heap.size]? = some (.cells (ints (List.replicate P.length 0)).toArray 3 (0, 0)) := by rw [← e2, ← made_ints]; exact new_block _ _
  have hs2 : w2.heap.size = w1.heap.size + 1 := by rw [← e2]; simp
  have hml : w.heap.size + 1 + 1 < w1.heap.size := by omega
  have hbx2 := (hb2.block _ hml).trans hM1.box
  have cm2 : w2.cell? ⟨w.heap.size + 1 + 1, 1, none⟩ = some (.slice none 0 0) := by rw [Lib.cell_of_heap hbx2]; rfl
  have fm2 : w2.frozen? ⟨w.heap.size + 1 + 1, 1, none⟩ = false := Lib.frozen_of_heap hbx2 1
  obtain ⟨w3, e3⟩ : ∃ w3, w2.setCell ⟨w.heap.size + 1 + 1, 1, none⟩ (.slice (some ⟨w1.heap.size, 0, none⟩) P.length P.length) = w3 := ⟨_, rfl⟩
  have hbx3 : w3.heap[w.heap.size + 1 + 1]? = some (.cells #[.slice (some ⟨pg, 0, none⟩) P.length cap, .slice (some ⟨w1.heap.size, 0, none⟩) P.length P.length, .int .i64 0] 84 (0, 0)) := by rw [← e3, heap_setCell_same w2 (w.heap.size + 1 + 1) 1 _ 84 _ hbx2]; rfl
  have g3 : ∀ g : Nat, g ≠ w.heap.size + 1 + 1 → w3.heap[g]? = w2.heap[g]? := fun g hg => by rw [← e3]; exact Below.heap_setCell w2 ⟨_, 1, none⟩ _ g hg
  have hs3 : w3.heap.size = w1.heap.size + 1 := by rw [← e3]; simpa using hs2
  have hB3 : Below w.heap.size w w3 := by rw [← e3]; exact (hB1.trans (hb2.mono (by omega))).setCell (p := ⟨w.heap.size + 1 + 1, 1, none⟩) (by show w.heap.size ≤ w.heap.size + 1 + 1; omega) _
  have hMS := hM1.ready (w' := w3) (fun g hg hne => (g3 g hne).trans (hb2.block g hg)) hbx3 ((g3 _ (by omega)).trans hn2)
  have hAM : ∀ (k : Nat) (av : Value), AS[k]? = some av → av.ownBlock ≠ some (w.heap.size + 1 + 1) := fun k av hk e => (hM1.ap1 k av _ hk e).1 rfl
  have hpgm : pg ≠ w.heap.size + 1 + 1 := fun e => hM1.apm (congrArg some e)
  have HAM := hid hAM
  have HMS := hid hMS
  have HB3 := hid hB3
  clear hAM hMS hB3 hbx3 g3 hn2 hb2 hB1 hM1 hF1 KI p0 p1 p2 p3 p4 p5 hz0 e0
  generalize hm : w.heap.size + 1 + 1 = m at *
  generalize hsgd : w1.heap.size = sg at *
  have hfl : f < P.length := HSND.out.lt
  obtain ⟨w4, e4⟩ : ∃ w4, w3.alloc (.cells #[.int .i64 (f : Int)] 3) = w4 := ⟨_, rfl⟩
  have hb4 : Below w3.heap.size w3 w4 := by rw [← e4]; exact (Below.refl _ _).alloc (Nat.le_refl _) _
  have hn4 : w4.heap[w3.heap.size]? = some (.cells #[.int .i64 (f : Int)] 3 (0, 0)) := by rw [← e4]; exact new_block _ _
  have hs4 : w4.heap.size = w3.heap.size + 1 := by rw [← e4]; simp
  have hga0 : X3.Gath P (X3.Reach P f []) 1 (List.replicate P.length 0) [] [] := X3.gath_new (by simp) (fun p x hx => by
    have := (List.getElem?_eq_some_iff.1 hx).2; simp at this; omega)
  have hMS4 : MS sg m pg cap sg P AS (List.replicate P.length 0) 0 w4 := HMS.out.ff (FF.ofBelow (B := w3.heap.size) hb4) (by omega) ((hb4.block sg (by omega)).trans HMS.out.marks) (by simp)
  have KF := hid (fold_any sg w3.heap.size m pg cap sg P AS (X3.Reach P f []) 0 (X3.muL P) (HT.out []) (HTL.out []) (by omega) (by omega) (by omega) (by omega) w4 (by omega) [] [f] (List.replicate P.length 0) (.slice none 0 0) (.slice (some ⟨w3.heap.size, 0, none⟩) 1 1) hMS4 (hga0.more (.start f (.refl f)))
    (World.ownsRow_nil _ _ _ _) ⟨rfl, .inr ⟨w3.heap.size, 1, _, rfl, Nat.le_refl _, hn4, Nat.le_refl _, by decide, rfl, rfl⟩⟩ (fun g hg => by cases hg) (by have := X3.muS_le P (List.replicate P.length 0) (0 + 1); simp; omega) (by have := X3.muS_le P (List.replicate P.length 0) (0 + 1); simp; omega) (by omega))
  have HB4 := hid (HB3.out.trans (hb4.mono (by omega)))
  have HS3 := hid hs3
  have HS4 := hid hs4
  clear hMS4 hga0 hn4 hb4 hs3 hs4
  go_wp2_with fail
  refine KF.out.mono ?_
  rintro e w5 ⟨av, A, seen, rfl, hms, hga, hff, hrow, hfew, hmono, hmores⟩
  have hA0 := X3.gath_start hga (hmores f (by simp))
  have hs5 := hff.size
  have hs3 := HS3.out
  have hs4 := HS4.out
  have hB5 : Below w.heap.size w w5 := ⟨hff.os.trans HB4.out.os, hff.tape.trans HB4.out.tape, hff.output.trans HB4.out.output, by have := HB4.out.size; omega, fun g hg => (hff.same g (by omega) (by omega)).trans (HB4.out.block g hg)⟩
  have hst : MOut w.heap.size w3.heap.size sg m pg cap sg P AS f (LL s) w 0 A seen av w5 := ⟨hms, by rw [List.take_zero]; exact hga, by rw [List.take_zero]; exact hA0, hrow, hfew, hB5, by omega⟩
  have HST := hid hst
  have hll : (LL s).length = s.size := rfl
  clear hst hms hga hff hrow hfew hmono hmores hA0 hB5 KF hs3 hs4 HMS HB3 HB4 e2 e3 e4 hbx2 hmake cm cm2 fm2
  go_wp2_with fail
  go_loopg [7, 9, 34] s.size (fun gk t7 t9 t34 wr => ∃ (k : Nat) (A seen : List Nat), Aside (k ≤ s.size ∧ gk = s.size - k ∧ t34 = .int .i64 (k : Int) ∧ MOut w.heap.size w3.heap.size sg m pg cap sg P AS f (LL s) w k A seen t7 wr))
  case atStart => exact ⟨0, A, seen, Nat.zero_le _, rfl, rfl, HST.out⟩
  case round =>
    clear HST
    obtain ⟨k, A, seen, hst⟩ := hrel
    obtain ⟨hk, hgk, e34, hst2⟩ := hst.out
    subst e34
    clear hst
    have hst := hst2
    clear hst2
    have hms := hst.ms
    by_cases hlt : k < s.size
    · have h1 : (k : Int) < (s.size : Int) := by omega
      have h0 : (0 : Int) ≤ (k : Int) := by omega
      have HX : Hid ((LL s)[k]? = some (s[k]'hlt)) := hid (ll_at hlt)
      have HTK : Hid ((LL s).take (k + 1) = (LL s).take k ++ [s[k]'hlt]) := hid (by rw [List.take_add_one, ll_at hlt]; rfl)
      obtain ⟨ao, ac, hav⟩ : ∃ ao ac, u7 = .slice ao A.length ac := by
        rcases hst.row.2 with ⟨h, h2⟩ | ⟨g, cap, cur, h, _⟩
        · rw [h, h2]; exact ⟨_, _, rfl⟩
        · exact ⟨_, _, h⟩
      subst hav
      have b2 : wr.cell? ⟨m, 2, none⟩ = some (.int .i64 (k : Int)) := by rw [Lib.cell_of_heap hms.box]; rfl
      have q2 : wr.frozen? ⟨m, 2, none⟩ = false := Lib.frozen_of_heap hms.box 2
      have a0 : (0 : Int) ≤ (k : Int) + 1 := by omega
      have a1 : (k : Int) + 1 < 9223372036854775808 := by omega
      obtain ⟨wA, eA⟩ : ∃ wA, wr.setCell ⟨m, 2, none⟩ (.int .i64 ((k : Int) + 1)) = wA := ⟨_, rfl⟩
      have hmsA : MS sg m pg cap sg P AS seen (k + 1) wA := by rw [← eA]; exact hms.now_ (k + 1) hpgm HAM.out
      have gA : ∀ g : Nat, g ≠ m → wA.heap[g]? = wr.heap[g]? := fun g hg => by rw [← eA]; exact Below.heap_setCell wr ⟨m, 2, none⟩ _ g hg
      have sA : wA.heap.size = wr.heap.size := by rw [← eA]; simp
      have hBA : Below w.heap.size w wA := by rw [← eA]; exact hst.bl.setCell (p := ⟨m, 2, none⟩) (by show w.heap.size ≤ m; omega) _
      have hAl : A.length ≤ 10000 := by have := hst.few; omega
      have hin : MIn w3.heap.size wA.heap.size sg m pg cap sg P AS f (LL s) (s[k]'hlt) wA k 0 A [] seen (.slice none 0 0) wA := by
        refine ⟨hmsA, X3.gath_new hmsA.lenS (fun p x hx => by have := hst.ga.old p x hx; omega), World.ownsRow_nil _ _ _ _, by have := X3.muS_le P seen (k + 2); simp; omega, FF.refl _ _ _, fun i p pl hi => by omega⟩
      have HIN := hid hin
      have HST := hid hst
      have HBA := hid hBA
      have HGA := hid gA
      have HSA := hid sA
      have hszr := hst.sz
      clear hin hst hmsA gA hBA sA hms
      go_wp2_with fail
      clear b2 q2 eA
      generalize hwo : wr = wo at *
      clear hwo
      clear wr
      go_loopg [9, 44] A.length (fun gj t9 t44 wr => ∃ (j : Nat) (N seen2 : List Nat), Aside (j ≤ A.length ∧ gj = A.length - j ∧ t44 = .int .i64 (j : Int) ∧ MIn w3.heap.size wA.heap.size sg m pg cap sg P AS f (LL s) (s[k]'hlt) wA k j A N seen2 t9 wr))
      case atStart => exact ⟨0, [], seen, Nat.zero_le _, rfl, rfl, HIN.out⟩
      case round =>
        clear HIN
        obtain ⟨j, N, seen2, hin⟩ := hrel
        obtain ⟨hj, hgj, e44, hin2⟩ := hin.out
        subst e44
        clear hin
        have hin := hin2
        clear hin2
        by_cases hjl : j < A.length
        · have g1 : (j : Int) < (A.length : Int) := by omega
          have g0 : (0 : Int) ≤ (j : Int) := by omega
          obtain ⟨pq, hpq⟩ : ∃ pq, A[j]? = some pq := ⟨_, List.getElem?_eq_getElem hjl⟩
          have hrp := (HST.out.hA pq).1 (List.mem_iff_getElem?.2 ⟨j, hpq⟩)
          have hpl := HTL.out _ pq hrp
          obtain ⟨pl, hP⟩ : ∃ pl, P[pq]? = some pl := ⟨_, List.getElem?_eq_getElem hpl⟩
          obtain ⟨avp, hA⟩ : ∃ avp, AS[pq]? = some avp := ⟨_, List.getElem?_eq_getElem (by rw [hin.ms.lenA]; exact hpl)⟩
          obtain ⟨ag, acp, cur, hav2, hBg, hag, hnc, hcm, hcs, htk⟩ := owns_sl HST.out.row (by omega)
          injection hav2 with i1 i2 i3
          subst i1 i3
          have hsA := HSA.out
          have h3g := HS3.out
          have hffs := hin.ff.size
          have hagl : ag < wo.heap.size := (Array.getElem?_eq_some_iff.1 hag).1
          have hagi : wr.heap[ag]? = some (.cells cur 3 (0, 0)) := (hin.ff.same ag (by omega) (by omega)).trans ((HGA.out ag (by omega)).trans hag)
          have ca : wr.cell? ⟨ag, j, none⟩ = some (.int .i64 (pq : Int)) := by
            have e : (cur.toList.take (A.length * 1))[j]? = some (.int .i64 (pq : Int)) := by rw [htk]; exact ints_at hpq
            rw [List.getElem?_take, if_pos (by omega), Array.getElem?_toList] at e
            rw [Lib.cell_of_heap hagi]; exact e
          obtain ⟨bk, bx, by_, bz, bu, hbc, hnd⟩ := bcs_shape pl.b
          have hplc : plc pl avp = [.int .i64 bk, .int .u64 bx, .int .u64 by_, .int .u64 bz, .int .u64 bu, noKids, .int .i64 (pl.next : Int), avp] := by simp [plc, hbc]
          have hdw : Below wr.heap.size wr wr.drew := (Below.refl _ _).drew
          obtain ⟨wd, hwd⟩ : ∃ wd, wr.drew = wd := ⟨_, rfl⟩
          rw [hwd] at hdw
          have sdw : wd.heap.size = wr.heap.size := by rw [← hwd]; rfl
          have hmsd := hin.ms.ff (seen' := seen2) (FF.ofBelow (B := wA.heap.size) (hdw.mono (by omega))) (by omega) ((hdw.block sg (by omega)).trans hin.ms.marks) hin.ms.lenS
          have pc : ∀ q, q < 8 → wd.cell? ⟨pg, pq * 8 + q, none⟩ = (plc pl avp)[q]? := hmsd.pls pq pl avp hP hA
          have d0 : wd.cell? ⟨pg, pq * 8, none⟩ = some (.int .i64 bk) := by have := pc 0 (by decide); rw [hplc] at this; exact this
          have d1 : wd.cell? ⟨pg, pq * 8 + 1, none⟩ = some (.int .u64 bx) := by rw [pc 1 (by decide), hplc]; rfl
          have d2 : wd.cell? ⟨pg, pq * 8 + 2, none⟩ = some (.int .u64 by_) := by rw [pc 2 (by decide), hplc]; rfl
          have d3 : wd.cell? ⟨pg, pq * 8 + 3, none⟩ = some (.int .u64 bz) := by rw [pc 3 (by decide), hplc]; rfl
          have d4 : wd.cell? ⟨pg, pq * 8 + 4, none⟩ = some (.int .u64 bu) := by rw [pc 4 (by decide), hplc]; rfl
          have d5 : wd.cell? ⟨pg, pq * 8 + 5, none⟩ = some noKids := by rw [pc 5 (by decide), hplc]; rfl
          have dm : wd.cell? ⟨m, 0, none⟩ = some (.slice (some ⟨pg, 0, none⟩) P.length cap) := by rw [Lib.cell_of_heap hmsd.box]; rfl
          have r0 : (0 : Int) ≤ (pq : Int) := by omega
          have r1 : (pq : Int) < (P.length : Int) := by omega
          have KH := hid (fun w => has_any (okB_rep (HOK.out pq pl hP) w) (s[k]'hlt).toNat (s[k]'hlt).toNat_lt w)
          rw [hnd] at KH
          have HMSD := hid hmsd
          have HI := hid hin
          have HDW := hid hdw
          have SDW := hid sdw
          have hcap := hin.ms.cap_
          have HPC := hid pc
          have HPLC := hid hplc
          clear hin hmsd hdw hagi hag hcs htk hbc hnd pc hplc h3g hsA sdw
          go_upto_region 13 with fail
          refine region_T 11 (fun w' => w'.cell? ⟨m, 0, none⟩ = some (.slice (some ⟨pg, 0, none⟩) P.length cap) ∧ w'.cell? ⟨pg, pq * 8, none⟩ = some (.int .i64 bk) ∧ w'.cell? ⟨pg, pq * 8 + 1, none⟩ = some (.int .u64 bx) ∧ w'.cell? ⟨pg, pq * 8 + 2, none⟩ = some (.int .u64 by_) ∧ w'.cell? ⟨pg, pq * 8 + 3, none⟩ = some (.int .u64 bz) ∧ w'.cell? ⟨pg, pq * 8 + 4, none⟩ = some (.int .u64 bu) ∧ w'.cell? ⟨pg, pq * 8 + 5, none⟩ = some noKids) (by kernel_rfl) (by rw [hwd]; exact ⟨dm, d0, d1, d2, d3, d4, d5⟩) (fun inv hHeld => ?_)
          rw [hwd] at hHeld ⊢
          clear hwd ca
          refine anyT_take (i := 0) (oi := { dst := some 48, op := Op.move (Operand.tmp 5), type := 79, pos := "match.go:32", after := #[], guard := none }) (v := ?_) rfl (by kernel_rfl) (by kernel_rfl) (by kernel_rfl) (by decide) (by decide) (by kernel_rfl) (by kernel_rfl) (fun _ _ _ h => h) (Or.inl ⟨by rfl, ?_⟩) hHeld inv (fun inv => ?_)
          rotate_left
          · intro w hSw
            try dsimp only at hSw
            go_simp
            try with_reducible rfl
          simp only [Act.put, List.setIfInBounds_toArray, List.set_cons_zero, List.set_cons_succ]
          refine anyT_take (i := 1) (oi := { dst := some 49, op := Op.nilCheck (Operand.tmp 48), type := 0, pos := "match.go:32", after := #[{ on := 0, ground := Ground.data }], guard := none }) (v := ?_) rfl (by kernel_rfl) (by kernel_rfl) (by kernel_rfl) (by decide) (by decide) (by kernel_rfl) (by kernel_rfl) (fun _ _ _ h => h) (Or.inl ⟨by rfl, ?_⟩) hHeld inv (fun inv => ?_)
          rotate_left
          · intro w hSw
            try dsimp only at hSw
            go_simp
            try with_reducible rfl
          simp only [Act.put, List.setIfInBounds_toArray, List.set_cons_zero, List.set_cons_succ]
          refine anyT_take (i := 2) (oi := { dst := some 50, op := Op.fieldAddr 84 (Operand.tmp 49) 0, type := 0, pos := "match.go:32", after := #[{ on := 1, ground := Ground.data }], guard := none }) (v := ?_) rfl (by kernel_rfl) (by kernel_rfl) (by kernel_rfl) (by decide) (by decide) (by kernel_rfl) (by kernel_rfl) (fun _ _ _ h => h) (Or.inl ⟨by rfl, ?_⟩) hHeld inv (fun inv => ?_)
          rotate_left
          · intro w hSw
            try dsimp only at hSw
            go_simp
            try with_reducible rfl
          simp only [Act.put, List.setIfInBounds_toArray, List.set_cons_zero, List.set_cons_succ]
          refine anyT_take (i := 3) (oi := { dst := some 51, op := Op.load 82 (Operand.tmp 50), type := 82, pos := "match.go:32", after := #[{ on := 2, ground := Ground.data }], guard := none }) (v := ?_) rfl (by kernel_rfl) (by kernel_rfl) (by kernel_rfl) (by decide) (by decide) (by kernel_rfl) (by kernel_rfl) (fun _ _ _ h => h) (Or.inl ⟨by rfl, ?_⟩) hHeld inv (fun inv => ?_)
          rotate_left
          · intro w hSw
            try dsimp only at hSw
            go_simp
            try with_reducible rfl
          simp only [Act.put, List.setIfInBounds_toArray, List.set_cons_zero, List.set_cons_succ]
          refine anyT_take (i := 4) (oi := { dst := some 52, op := Op.move (Operand.tmp 11), type := 3, pos := "match.go:32", after := #[], guard := none }) (v := ?_) rfl (by kernel_rfl) (by kernel_rfl) (by kernel_rfl) (by decide) (by decide) (by kernel_rfl) (by kernel_rfl) (fun _ _ _ h => h) (Or.inl ⟨by rfl, ?_⟩) hHeld inv (fun inv => ?_)
          rotate_left
          · intro w hSw
            try dsimp only at hSw
            go_simp
            try with_reducible rfl
          simp only [Act.put, List.setIfInBounds_toArray, List.set_cons_zero, List.set_cons_succ]
          refine anyT_take (i := 5) (oi := { dst := some 53, op := Op.indexAddr 82 (Operand.tmp 51) (Operand.tmp 52), type := 0, pos := "match.go:32", after := #[{ on := 3, ground := Ground.data }, { on := 4, ground := Ground.data }], guard := none }) (v := ?_) rfl (by kernel_rfl) (by kernel_rfl) (by kernel_rfl) (by decide) (by decide) (by kernel_rfl) (by kernel_rfl) (fun _ _ _ h => h) (Or.inl ⟨by rfl, ?_⟩) hHeld inv (fun inv => ?_)
          rotate_left
          · intro w hSw
            try dsimp only at hSw
            go_simp
            try with_reducible rfl
          simp only [Act.put, List.setIfInBounds_toArray, List.set_cons_zero, List.set_cons_succ]
          refine anyT_take (i := 6) (oi := { dst := some 54, op := Op.fieldAddr 81 (Operand.tmp 53) 0, type := 0, pos := "match.go:32", after := #[{ on := 5, ground := Ground.data }], guard := none }) (v := ?_) rfl (by kernel_rfl) (by kernel_rfl) (by kernel_rfl) (by decide) (by decide) (by kernel_rfl) (by kernel_rfl) (fun _ _ _ h => h) (Or.inl ⟨by rfl, ?_⟩) hHeld inv (fun inv => ?_)
          rotate_left
          · intro w hSw
            try dsimp only at hSw
            go_simp
            try with_reducible rfl
          simp only [Act.put, List.setIfInBounds_toArray, List.set_cons_zero, List.set_cons_succ]
          refine anyT_take (i := 7) (oi := { dst := some 55, op := Op.load 38 (Operand.tmp 54), type := 38, pos := "match.go:32", after := #[{ on := 6, ground := Ground.data }], guard := none }) (v := ?_) rfl (by kernel_rfl) (by kernel_rfl) (by kernel_rfl) (by decide) (by decide) (by kernel_rfl) (by kernel_rfl) (fun _ _ _ h => h) (Or.inl ⟨by rfl, ?_⟩) hHeld inv (fun inv => ?_)
          rotate_left
          · intro w hSw
            try dsimp only at hSw
            go_simp
            try with_reducible rfl
          simp only [Act.put, List.setIfInBounds_toArray, List.set_cons_zero, List.set_cons_succ]
          refine anyT_take (i := 8) (oi := { dst := some 56, op := Op.move (Operand.tmp 1), type := 9, pos := "match.go:32", after := #[], guard := none }) (v := ?_) rfl (by kernel_rfl) (by kernel_rfl) (by kernel_rfl) (by decide) (by decide) (by kernel_rfl) (by kernel_rfl) (fun _ _ _ h => h) (Or.inl ⟨by rfl, ?_⟩) hHeld inv (fun inv => ?_)
          rotate_left
          · intro w hSw
            try dsimp only at hSw
            go_simp
            try with_reducible rfl
          simp only [Act.put, List.setIfInBounds_toArray, List.set_cons_zero, List.set_cons_succ]
          refine anyT_take (i := 9) (oi := { dst := some 57, op := Op.move (Operand.tmp 8), type := 3, pos := "match.go:32", after := #[], guard := none }) (v := ?_) rfl (by kernel_rfl) (by kernel_rfl) (by kernel_rfl) (by decide) (by decide) (by kernel_rfl) (by kernel_rfl) (fun _ _ _ h => h) (Or.inl ⟨by rfl, ?_⟩) hHeld inv (fun inv => ?_)
          rotate_left
          · intro w hSw
            try dsimp only at hSw
            go_simp
            try with_reducible rfl
          simp only [Act.put, List.setIfInBounds_toArray, List.set_cons_zero, List.set_cons_succ]
          refine anyT_take (i := 10) (oi := { dst := some 58, op := Op.index 9 (Operand.tmp 56) (Operand.tmp 57), type := 5, pos := "match.go:32", after := #[{ on := 8, ground := Ground.data }, { on := 9, ground := Ground.data }], guard := none }) (v := ?_) rfl (by kernel_rfl) (by kernel_rfl) (by kernel_rfl) (by decide) (by decide) (by kernel_rfl) (by kernel_rfl) (fun _ _ _ h => h) (Or.inl ⟨by rfl, ?_⟩) hHeld inv (fun inv => ?_)
          rotate_left
          · intro w hSw
            try dsimp only at hSw
            go_simp
            try with_reducible rfl
          simp only [Act.put, List.setIfInBounds_toArray, List.set_cons_zero, List.set_cons_succ]
          refine anyT_one (i := 11) (o := { dst := some 59, op := Op.call { callee := Callee.value (Operand.func 38), args := #[Operand.tmp 55, Operand.tmp 58], argTypes := #[38, 5] }, type := 4, pos := "match.go:32", after := #[{ on := 7, ground := Ground.data }, { on := 10, ground := Ground.data }], guard := none }) (by kernel_rfl) rfl (fun K' hK => ?_)
          go_simp
          refine (KH.out _).mono ?_
          rintro e w7 ⟨rfl, hb7⟩
          refine hK.out _ _ (fun h => absurd h (by decide)) ?_
          clear hK K'
          try simp only [Act.put, List.setIfInBounds_toArray, List.set_cons_zero, List.set_cons_succ]
          refine anyT_done (by kernel_rfl) ?_ _
          clear inv hHeld d0 d1 d2 d3 d4 d5 dm i2
          have HB7 := hid (HDW.out.trans (hb7.mono (Nat.le_of_eq SDW.out.symm)))
          have hB7 := HB7.out
          have hws := HB7.out.size
          have hsA := HSA.out
          have h3g := HS3.out
          have hbj0 : (0 : Int) ≤ (j : Int) + 1 := by omega
          have hbj1 : (j : Int) + 1 < 9223372036854775808 := by omega
          have hms7 : MS sg m pg cap sg P AS seen2 (k + 1) w7 := HI.out.ms.ff (seen' := seen2) (FF.ofBelow (B := wA.heap.size) (hB7.mono (by omega))) (by omega) ((hB7.block sg (by omega)).trans HI.out.ms.marks) HI.out.ms.lenS
          have hf7 : FF wA.heap.size sg wA w7 := HI.out.ff.trans (FF.ofBelow (hB7.mono (by omega)))
          by_cases hxx : X3.hasX pl.b (s[k]'hlt).toNat = true
          · have HXX := hid hxx
            have dm7 : w7.cell? ⟨m, 0, none⟩ = some (.slice (some ⟨pg, 0, none⟩) P.length cap) := by rw [Lib.cell_of_heap hms7.box]; rfl
            have d67 : w7.cell? ⟨pg, pq * 8 + 6, none⟩ = some (.int .i64 (pl.next : Int)) := by rw [hms7.pls pq pl avp hP hA 6 (by decide), HPLC.out]; rfl
            obtain ⟨w8, e8⟩ : ∃ w8, w7.alloc (.cells #[.int .i64 (pl.next : Int)] 3) = w8 := ⟨_, rfl⟩
            have hb8 : Below w7.heap.size w7 w8 := by rw [← e8]; exact (Below.refl _ _).alloc (Nat.le_refl _) _
            have hn8 : w8.heap[w7.heap.size]? = some (.cells #[.int .i64 (pl.next : Int)] 3 (0, 0)) := by rw [← e8]; exact new_block _ _
            have hs8 : w8.heap.size = w7.heap.size + 1 := by rw [← e8]; simp
            have hms8 : MS sg m pg cap sg P AS seen2 (k + 1) w8 := hms7.ff (seen' := seen2) (FF.ofBelow (B := w7.heap.size) hb8) (by omega) ((hb8.block sg (by omega)).trans hms7.marks) hms7.lenS
            have hg8 : X3.Gath P (X3.Reach P f ((LL s).take k ++ [s[k]'hlt])) (k + 1 + 1) seen2 N [pl.next] := HI.out.ga.more (.step _ _ pq pl.next pl hrp hP hxx (.refl _))
            have hr8 : w8.ownsRow wA.heap.size 3 1 u9 N.length (ints N) := owns_kept (owns_kept HI.out.row (fun g hg => hB7.block g (HI.out.row.lt g hg).2)) (fun g hg => hb8.block g (by have := (HI.out.row.lt g hg).2; omega))
            have hfw8 : N.length + X3.muS P seen2 (k + 1 + 1) ≤ X3.muL P := HI.out.few
            have hne8 : ∀ g, u9.ownBlock = some g → (Value.slice (some ⟨w7.heap.size, 0, none⟩) 1 1).ownBlock ≠ some g := fun g hg e => by
              have h := (HI.out.row.lt g hg).2
              have h' : w7.heap.size = g := Option.some.inj e
              omega
            have hf8 : FF wA.heap.size sg wA w8 := hf7.trans (FF.ofBelow (hb8.mono (by omega)))
            have KF := hid (fold_any sg wA.heap.size m pg cap sg P AS (X3.Reach P f ((LL s).take k ++ [s[k]'hlt])) (k + 1) (X3.muL P) (HT.out _) (HTL.out _) (by omega) (by omega) (by omega) (by omega) w8 (by omega) N [pl.next] seen2 u9 (.slice (some ⟨w7.heap.size, 0, none⟩) 1 1) hms8 hg8 hr8 ⟨rfl, .inr ⟨w7.heap.size, 1, _, rfl, by omega, hn8, Nat.le_refl _, by decide, rfl, rfl⟩⟩ hne8 hfw8 (by simp; omega) (by omega))
            have HF8 := hid hf8
            rw [hxx]
            clear hms7 hf7 hb8 hn8 hs8 hms8 hg8 hr8 hfw8 hne8 hf8 hsA h3g hxx hb7 hB7
            go_wp2_with fail
            refine KF.out.mono ?_
            rintro e w9 ⟨nv, N', seen3, rfl, hms9, hga9, hff9, hrow9, hfew9, hmono9, hmores9⟩
            have hn9 : MIn w3.heap.size wA.heap.size sg m pg cap sg P AS f (LL s) (s[k]'hlt) wA k (j + 1) A N' seen3 nv w9 := by
              refine ⟨hms9, hga9, hrow9, hfew9, HF8.out.trans hff9, fun i p pl' hi hAi hPp hx => ?_⟩
              by_cases hij : i < j
              · exact hmono9 _ (HI.out.all i p pl' hij hAi hPp hx)
              · have : i = j := by omega
                subst this
                rw [hpq] at hAi
                injection hAi with hAi
                subst hAi
                rw [hP] at hPp
                injection hPp with hPp
                subst hPp
                exact hmores9 _ (by simp)
            have HN9 := hid hn9
            clear hn9 hms9 hga9 hff9 hrow9 hfew9 hmono9 hmores9 KF e8
            go_wp2_with fail
            go_roundg (A.length - (j + 1))
            case measure => omega
            case rel => exact ⟨j + 1, N', seen3, by omega, rfl, rfl, HN9.out⟩
          · have hxf : X3.hasX pl.b (s[k]'hlt).toNat = false := by cases h : X3.hasX pl.b (s[k]'hlt).toNat with
              | false => rfl
              | true => exact absurd h hxx
            have hn9 : MIn w3.heap.size wA.heap.size sg m pg cap sg P AS f (LL s) (s[k]'hlt) wA k (j + 1) A N seen2 u9 w7 := by
              refine ⟨hms7, HI.out.ga, owns_kept HI.out.row (fun g hg => hB7.block g (HI.out.row.lt g hg).2), HI.out.few, hf7, fun i p pl' hi hAi hPp hx => ?_⟩
              by_cases hij : i < j
              · exact HI.out.all i p pl' hij hAi hPp hx
              · have : i = j := by omega
                subst this
                rw [hpq] at hAi
                injection hAi with hAi
                subst hAi
                rw [hP] at hPp
                injection hPp with hPp
                subst hPp
                exact absurd hx hxx
            have HN9 := hid hn9
            rw [hxf]
            clear hn9 hms7 hf7 hsA h3g hxx hxf hb7 hB7
            go_wp2_with fail
            go_roundg (A.length - (j + 1))
            case measure => omega
            case rel => exact ⟨j + 1, N, seen2, by omega, rfl, rfl, HN9.out⟩
        · have g1 : ¬ (j : Int) < (A.length : Int) := by omega
          have hjA : j = A.length := by omega
          subst hjA
          have hsA := HSA.out
          have h3g := HS3.out
          have hffs := hin.ff.size
          have hnx : MOut w.heap.size w3.heap.size sg m pg cap sg P AS f (LL s) w (k + 1) N seen2 u9 wr := by
            have hg2 : X3.Gath P (X3.Reach P f ((LL s).take (k + 1))) (k + 1 + 1) seen2 N [] := by rw [HTK.out]; exact hin.ga
            refine ⟨hin.ms, hg2, ?_, owns_mono hin.row (by omega), hin.few, ⟨hin.ff.os.trans HBA.out.os, hin.ff.tape.trans HBA.out.tape, hin.ff.output.trans HBA.out.output, by have := HBA.out.size; omega, fun g hg => (hin.ff.same g (by omega) (by omega)).trans (HBA.out.block g hg)⟩, by omega⟩
            rw [HTK.out]
            refine X3.gath_next HST.out.hA hin.ga (fun p hp pl hP hx => ?_)
            obtain ⟨i, hi⟩ := List.mem_iff_getElem?.1 hp
            exact hin.all i p pl (List.getElem?_eq_some_iff.1 hi).1 hi hP hx
          have HNX := hid hnx
          clear hin hnx h3g hsA
          go_wp2_with fail
          go_roundg (s.size - (k + 1))
          case measure => omega
          case rel => exact ⟨k + 1, N, seen2, by omega, rfl, rfl, HNX.out⟩
    · have hks : k = s.size := by omega
      subst hks
      have h1 : ¬ ((s.size : Nat) : Int) < (s.size : Int) := by omega
      have htk : (LL s).take s.size = LL s := by rw [← hll]; exact List.take_length
      obtain ⟨x0, hx0⟩ : ∃ x0, seen[0]? = some x0 := ⟨_, List.getElem?_eq_getElem (by rw [hms.lenS]; exact hP0)⟩
      have b1 : wr.cell? ⟨m, 1, none⟩ = some (.slice (some ⟨sg, 0, none⟩) P.length P.length) := by rw [Lib.cell_of_heap hms.box]; rfl
      have b2 : wr.cell? ⟨m, 2, none⟩ = some (.int .i64 (s.size : Int)) := by rw [Lib.cell_of_heap hms.box]; rfl
      have bs : wr.cell? ⟨sg, 0, none⟩ = some (.int .i64 (x0 : Int)) := by rw [Lib.cell_of_heap hms.marks, List.getElem?_toArray]; exact ints_at hx0
      have hiff : x0 = s.size + 1 ↔ X3.mtB r (LL s) = true := by
        rw [X3.mtB_iff, ← HMT.out, ← htk, ← hst.hA 0, hst.ga.iff_, hx0]
        exact ⟨fun e => by rw [e], fun e => Option.some.inj e⟩
      have a0 : (0 : Int) ≤ (s.size : Int) + 1 := by omega
      have a1 : (s.size : Int) + 1 < 9223372036854775808 := by omega
      have p0' : (0 : Int) < (P.length : Int) := by omega
      have HBL := hid hst.bl
      clear hst hms htk
      by_cases hx : x0 = s.size + 1
      · have hB : X3.mtB r (LL s) = true := hiff.1 hx
        have t1 : ((x0 : Int) == (s.size : Int) + 1) = true := by rw [beq_iff_eq]; omega
        have HB := hid hB
        clear hiff hB hx
        go_wp2_with fail
        go_quiet (fail)
        go_wp2_with fail
        go_ret
        exact ⟨by rw [HB.out]; rfl, HBL.out.trans (below_drewN (Below.refl _ _) _)⟩
      · have hB : X3.mtB r (LL s) = false := by
          cases h : X3.mtB r (LL s) with
          | false => rfl
          | true => exact absurd (hiff.2 h) hx
        have t1 : ((x0 : Int) == (s.size : Int) + 1) = false := by rw [beq_eq_false_iff_ne]; omega
        have HB := hid hB
        clear hiff hB hx
        go_wp2_with fail
        go_quiet (fail)
        go_wp2_with fail
        go_ret
        exact ⟨by rw [HB.out]; rfl, HBL.out.trans (below_drewN (Below.refl _ _) _)⟩

end Go.Proofs.YtochckefnjobhaaDoor.RM
