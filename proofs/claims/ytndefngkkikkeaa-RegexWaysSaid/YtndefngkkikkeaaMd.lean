/- regex's matcher: its places in memory. -/
import Derived.Test.YtndefngkkikkeaaXf
namespace Go.Proofs.Ytndefngkkikkeaa
open Go Go.RowKit Go.Lib
open X3 (RX Pl)
set_option linter.unusedVariables false
set_option linter.unusedSimpArgs false

theorem wp_append_own_at {P : Program} {w : World} {o : Oper} {a : Act} {K : Act → World → Prop} {Q : Exit → Act → World → Prop} (s x : Operand) (t : TypeId)
    (ho : o.op = .call { callee := .builtin .append, args := #[s, x], argTypes := #[t, t] })
    (base : Nat) (e : TypeId) (i : TypeInfo) (z : Value) (size bytes : Nat) (ht : P.underlying t = some (.slice e)) (hi : P.info? e = some i) (hz : i.zero = some z)
    (hsize : i.size = size) (hby : i.bytes = bytes) (hzs : z.cells.size = size) (hsz : 0 < size)
    (v : Value) (n : Nat) (xs : List Value) (hs : a.eval s = v) (hown : w.ownsRow base e size v n xs)
    (ad : Addr) (m c : Nat) (news : List Value) (hx : a.eval x = .slice (some ad) m c) (hl : news.length = m * size) (hnews : ∀ j u, news[j]? = some u → w.cell? (ad.add j) = some u) (h1 : ∀ u ∈ news, u.oneCell' = true)
    (h63 : n + m ≤ maxLen) (hbytes : (n + m) * bytes ≤ 140737488355328) (hbase : base ≤ w.heap.size)
    (h : ∀ v' w', w'.ownsRow base e size v' (n + m) (xs ++ news) → w.grownBy w' v.ownBlock → (v' = .slice none 0 0 ↔ v = .slice none 0 0 ∧ m = 0) → (v'.ownBlock = v.ownBlock ∨ v'.ownBlock = some w.heap.size) → K (a.put o.dst v') w') :
    o.wp P a w K Q := by
  obtain ⟨v', w', hr, h2, h3, h4, h5⟩ := run_append_own_at (P := P) w base t o.type e i z size bytes ht hi hz hsize hby hzs hsz v n xs hown ad m c news hl hnews h1 h63 hbytes hbase
  unfold Oper.wp execOp
  simp only [ho, resolve, invoke, builtin, Sem.run_bind, Sem.run_pure, Result.andThen_ok, List.map_toArray, List.map_cons, List.map_nil, hs, hx, hr]
  exact h v' w' h2 h3 h4 h5

/-- A place's bytes, as a regex. -/
def nodeOf : RX → Value
  | .bytes x y z u => nodeV 1 x y z u noKids
  | _ => nodeV 0 0 0 0 0 noKids
def bcs : RX → List Value
  | .bytes x y z u => [.int .i64 1, .int .u64 x, .int .u64 y, .int .u64 z, .int .u64 u, noKids]
  | _ => [.int .i64 0, .int .u64 0, .int .u64 0, .int .u64 0, .int .u64 0, noKids]
theorem bcs_len (b : RX) : (bcs b).length = 6 := by cases b <;> rfl
theorem bcs_shape (b : RX) : ∃ k x y z u : Int, bcs b = [.int .i64 k, .int .u64 x, .int .u64 y, .int .u64 z, .int .u64 u, noKids] ∧ nodeOf b = nodeV k x y z u noKids := by
  cases b <;> exact ⟨_, _, _, _, _, rfl, rfl⟩
def plc (pl : Pl) (av : Value) : List Value := bcs pl.b ++ [.int .i64 pl.next, av]
theorem plc_len (pl : Pl) (av : Value) : (plc pl av).length = 8 := by simp [plc, bcs_len]
def cellsP : List Pl → List Value → List Value
  | pl :: P, av :: AS => plc pl av ++ cellsP P AS
  | _, _ => []
theorem cellsP_app : ∀ (P : List Pl) (AS : List Value) (pl : Pl) (av : Value), AS.length = P.length → cellsP (P ++ [pl]) (AS ++ [av]) = cellsP P AS ++ plc pl av
  | [], [], pl, av, _ => by simp [cellsP]
  | p :: P, a :: AS, pl, av, h => by
    simp only [List.cons_append, cellsP]
    rw [cellsP_app P AS pl av (by simpa using h), List.append_assoc]
theorem cellsP_len : ∀ (P : List Pl) (AS : List Value), AS.length = P.length → (cellsP P AS).length = P.length * 8
  | [], [], _ => rfl
  | p :: P, a :: AS, h => by
    simp only [cellsP, List.length_append, plc_len, List.length_cons]
    rw [cellsP_len P AS (by simpa using h)]; omega
theorem cellsP_at : ∀ (P : List Pl) (AS : List Value) (k : Nat) (pl : Pl) (av : Value), AS.length = P.length → P[k]? = some pl → AS[k]? = some av → ∀ j, j < 8 → (cellsP P AS)[k * 8 + j]? = (plc pl av)[j]?
  | p :: P, a :: AS, 0, pl, av, h, h1, h2, j, hj => by
    simp at h1 h2; subst h1 h2
    simp only [cellsP, Nat.zero_mul, Nat.zero_add]
    rw [List.getElem?_append_left (by rw [plc_len]; exact hj)]
  | p :: P, a :: AS, k + 1, pl, av, h, h1, h2, j, hj => by
    simp only [cellsP]
    rw [List.getElem?_append_right (by rw [plc_len]; omega), plc_len, show (k + 1) * 8 + j - 8 = k * 8 + j by omega]
    exact cellsP_at P AS k pl av (by simpa using h) (by simpa using h1) (by simpa using h2) j hj
  | [], _, k, pl, av, h, h1, _, _, _ => by cases h1

/-- The matcher's places in memory, while they are laid. -/
structure MRep (B m : Nat) (w : World) (pv : Value) (AS : List Value) (P : List Pl) : Prop where
  box : w.heap[m]? = some (.cells #[pv, .slice none 0 0, .int .i64 0] 63 (0, 0))
  mB : B ≤ m
  row : w.ownsRow B 60 8 pv P.length (cellsP P AS)
  lenA : AS.length = P.length
  also : ∀ (k : Nat) (pl : Pl) (av : Value), P[k]? = some pl → AS[k]? = some av → w.ownsRow B 3 1 av pl.also.length (pl.also.map fun (q : Nat) => Value.int .i64 (q : Int))
  ap1 : ∀ (k : Nat) (av : Value) (g : Nat), AS[k]? = some av → av.ownBlock = some g → g ≠ m ∧ pv.ownBlock ≠ some g
  ap2 : ∀ (i j : Nat) (a b : Value) (g : Nat), AS[i]? = some a → AS[j]? = some b → a.ownBlock = some g → b.ownBlock = some g → i = j
  apm : pv.ownBlock ≠ some m

theorem owns_kept {w w' : World} {B : Nat} {e : TypeId} {sz : Nat} {v : Value} {n : Nat} {xs : List Value} (h : w.ownsRow B e sz v n xs) (hb : ∀ g, v.ownBlock = some g → w'.heap[g]? = w.heap[g]?) : w'.ownsRow B e sz v n xs := by
  refine ⟨h.1, ?_⟩
  rcases h.2 with hn | ⟨g, cap, cur, rfl, hB, hg, rest⟩
  · exact .inl hn
  · exact .inr ⟨g, cap, cur, rfl, hB, (hb g rfl).trans hg, rest⟩

/-- The blocks of a matcher. -/
def Own (m : Nat) (pv : Value) (AS : List Value) (g : Nat) : Prop := g = m ∨ pv.ownBlock = some g ∨ ∃ a ∈ AS, a.ownBlock = some g
/-- All but some blocks lies there yet; those that may turn are elder ones of them, or new. -/
structure LF (w w' : World) (O O' : Nat → Prop) : Prop where
  os : w'.os = w.os
  tape : w'.tape = w.tape
  output : w'.output = w.output
  size : w.heap.size ≤ w'.heap.size
  same : ∀ g, g < w.heap.size → ¬ O g → w'.heap[g]? = w.heap[g]?
  own : ∀ g, O' g → O g ∨ w.heap.size ≤ g
theorem LF.trans {a b c : World} {O O' O2 : Nat → Prop} (h : LF a b O O') (k : LF b c O' O2) : LF a c O O2 :=
  ⟨k.os.trans h.os, k.tape.trans h.tape, k.output.trans h.output, Nat.le_trans h.size k.size,
    fun g hg hO => (k.same g (Nat.lt_of_lt_of_le hg h.size) (fun h' => by rcases h.own g h' with h1 | h1; exact hO h1; omega)).trans (h.same g hg hO),
    fun g hg => by
      rcases k.own g hg with h1 | h1
      · exact h.own g h1
      · exact .inr (Nat.le_trans h.size h1)⟩
theorem LF.ofBelow {w w' : World} {O : Nat → Prop} (h : Below w.heap.size w w') : LF w w' O O := ⟨h.os, h.tape, h.output, h.size, fun g hg _ => h.block g hg, fun g hg => .inl hg⟩
theorem MRep.own_ge {B m : Nat} {w : World} {pv : Value} {AS : List Value} {P : List Pl} (h : MRep B m w pv AS P) {g : Nat} (hg : Own m pv AS g) : B ≤ g ∧ g < w.heap.size := by
  rcases hg with rfl | hg | ⟨a, ha, hg⟩
  · exact ⟨h.mB, (Array.getElem?_eq_some_iff.1 h.box).1⟩
  · exact h.row.lt g hg
  · obtain ⟨k, hk⟩ := List.mem_iff_getElem?.1 ha
    have hlt : k < P.length := by rw [← h.lenA]; exact (List.getElem?_eq_some_iff.1 hk).1
    exact (h.also k _ a (List.getElem?_eq_getElem hlt) hk).lt g hg
theorem LF.below {B m : Nat} {w w' : World} {pv : Value} {AS : List Value} {P : List Pl} {O' : Nat → Prop} (h : LF w w' (Own m pv AS) O') (hM : MRep B m w pv AS P) (hB : B ≤ w.heap.size) : Below B w w' :=
  ⟨h.os, h.tape, h.output, h.size, fun g hg => h.same g (by omega) (fun ho => by have := (hM.own_ge ho).1; omega)⟩

theorem MRep.below {B m : Nat} {w w' : World} {pv : Value} {AS : List Value} {P : List Pl} (h : MRep B m w pv AS P) (hb : Below w.heap.size w w') : MRep B m w' pv AS P :=
  ⟨(hb.block m (Array.getElem?_eq_some_iff.1 h.box).1).trans h.box, h.mB, owns_kept h.row (fun g hg => hb.block g (h.row.lt g hg).2), h.lenA,
    fun k pl av h1 h2 => owns_kept (h.also k pl av h1 h2) (fun g hg => hb.block g ((h.also k pl av h1 h2).lt g hg).2), h.ap1, h.ap2, h.apm⟩

def zero8 : Array Value := #[.int .i64 0, .int .u64 0, .int .u64 0, .int .u64 0, .int .u64 0, noKids, .int .i64 0, .slice none 0 0]
theorem info60 : (Try.prog.info? 60).map (fun i => (i.zero, i.size, i.bytes)) = some (some (.agg zero8), 8, 96) := by kernel_rfl
theorem info3 : (Try.prog.info? 3).map (fun i => (i.zero, i.size, i.bytes)) = some (some (.int .i64 0), 1, 8) := by kernel_rfl

end Go.Proofs.Ytndefngkkikkeaa

/- regex's matcher: add. -/
namespace Go.Proofs.Ytndefngkkikkeaa
open Go Go.RowKit Go.Lib
open X3 (RX Pl)
set_option linter.unusedVariables false
set_option linter.unusedSimpArgs false

theorem heap_set0 {w : World} {k : Nat} {cs : Array Value} {t : TypeId} (v : Value) (h : w.heap[k]? = some (.cells cs t (0, 0))) : (w.setCell ⟨k, 0, none⟩ v).heap[k]? = some (.cells (cs.setIfInBounds 0 v) t (0, 0)) := heap_setCell_same w k 0 cs t v h

theorem MRep.pushed {B m : Nat} {w1 w2 : World} {pv pv' : Value} {AS : List Value} {P : List Pl} {pl : Pl} (h : MRep B m w1 pv AS P) (hpl : pl.also = [])
    (hown : w2.ownsRow B 60 8 pv' (P.length + 1) (cellsP P AS ++ plc pl (.slice none 0 0))) (hg : w1.grownBy w2 pv.ownBlock) (hat : pv'.ownBlock = pv.ownBlock ∨ pv'.ownBlock = some w1.heap.size) :
    MRep B m (w2.setCell ⟨m, 0, none⟩ pv') pv' (AS ++ [.slice none 0 0]) (P ++ [pl]) := by
  have hml : m < w1.heap.size := (Array.getElem?_eq_some_iff.1 h.box).1
  have hmb : w2.heap[m]? = some (.cells #[pv, .slice none 0 0, .int .i64 0] 63 (0, 0)) := (hg.block m hml (fun e => h.apm e.symm)).trans h.box
  have hmp : pv'.ownBlock ≠ some m := by
    rcases hat with e | e
    · rw [e]; exact h.apm
    · rw [e]; intro e2; have := Option.some.inj e2; omega
  have old : ∀ (k : Nat) (av : Value), AS[k]? = some av → ∀ g, av.ownBlock = some g → (w2.setCell ⟨m, 0, none⟩ pv').heap[g]? = w1.heap[g]? ∧ g < w1.heap.size := by
    intro k av hk g hgo
    obtain ⟨pl0, hp0⟩ : ∃ pl0, P[k]? = some pl0 := by
      have : k < P.length := by rw [← h.lenA]; exact (List.getElem?_eq_some_iff.1 hk).1
      exact ⟨_, List.getElem?_eq_getElem this⟩
    have hl := ((h.also k pl0 av hp0 hk).lt g hgo).2
    have ha := h.ap1 k av g hk hgo
    exact ⟨(Below.heap_setCell _ _ _ _ ha.1).trans (hg.block g hl (fun e => ha.2 e.symm)), hl⟩
  have hAS : ∀ (k : Nat) (av : Value), (AS ++ [.slice none 0 0])[k]? = some av → ∀ g, av.ownBlock = some g → AS[k]? = some av := by
    intro k av hk g hgo
    by_cases hlt : k < AS.length
    · rwa [List.getElem?_append_left hlt] at hk
    · rw [List.getElem?_append_right (by omega)] at hk
      by_cases e : k - AS.length = 0
      · rw [e] at hk; simp at hk; subst hk; cases hgo
      · have : ([Value.slice none 0 0] : List Value)[k - AS.length]? = none := by rw [List.getElem?_eq_none_iff]; simp; omega
        rw [this] at hk; cases hk
  refine ⟨?_, h.mB, ?_, by simp [h.lenA], ?_, ?_, ?_, hmp⟩
  · rw [heap_set0 pv' hmb]; rfl
  · rw [cellsP_app P AS pl _ h.lenA]
    have : (P ++ [pl]).length = P.length + 1 := by simp
    rw [this]
    exact owns_kept hown (fun g hgo => Below.heap_setCell _ _ _ _ (fun e => hmp (by rw [hgo]; exact congrArg some e)))
  · intro k pl1 av hp hk
    by_cases hlt : k < AS.length
    · rw [List.getElem?_append_left hlt] at hk
      rw [List.getElem?_append_left (by rw [← h.lenA]; exact hlt)] at hp
      exact owns_kept (h.also k pl1 av hp hk) (fun g hgo => (old k av hk g hgo).1)
    · have hk' : k = AS.length := by
        have : k < (AS ++ [Value.slice none 0 0]).length := (List.getElem?_eq_some_iff.1 hk).1
        simp at this; omega
      subst hk'
      rw [List.getElem?_append_right (Nat.le_refl _), Nat.sub_self] at hk
      rw [h.lenA, List.getElem?_append_right (Nat.le_refl _), Nat.sub_self] at hp
      simp at hk hp
      subst hk hp
      rw [hpl]
      exact World.ownsRow_nil _ _ _ _
  · intro k av g hk hgo
    have hk2 := hAS k av hk g hgo
    refine ⟨(h.ap1 k av g hk2 hgo).1, ?_⟩
    rcases hat with e | e
    · rw [e]; exact (h.ap1 k av g hk2 hgo).2
    · rw [e]; intro e2; have := Option.some.inj e2; have := (old k av hk2 g hgo).2; omega
  · intro i j a b g hi hj ha hb
    exact h.ap2 i j a b g (hAS i a hi g ha) (hAS j b hj g hb) ha hb

set_option maxRecDepth 100000 in
set_option maxHeartbeats 4000000 in
theorem add_any (B m : Nat) (w : World) (pv : Value) (AS : List Value) (P : List Pl) (b : RX) (next : Nat) (h : MRep B m w pv AS P) (hP : P.length ≤ 1000000) (hBw : B ≤ w.heap.size) :
    Calls Try.prog 39 #[.pointer (some ⟨m, 0, none⟩), .agg (plc ⟨b, next, []⟩ (.slice none 0 0)).toArray] w fun e w' => ∃ pv', e = .returned (.int .i64 (P.length : Nat)) ∧ MRep B m w' pv' (AS ++ [.slice none 0 0]) (P ++ [⟨b, next, []⟩]) ∧ LF w w' (Own m pv AS) (Own m pv' (AS ++ [.slice none 0 0])) := by
  obtain ⟨k, x, y, z, u, hbc, -⟩ := bcs_shape b
  have hpc : plc ⟨b, next, []⟩ (.slice none 0 0) = [.int .i64 k, .int .u64 x, .int .u64 y, .int .u64 z, .int .u64 u, noKids, .int .i64 (next : Int), .slice none 0 0] := by simp [plc, hbc]
  have HPC := hid hpc
  rw [hpc]
  show Calls Try.prog 39 #[.pointer (some ⟨m, 0, none⟩), .agg #[.int .i64 k, .int .u64 x, .int .u64 y, .int .u64 z, .int .u64 u, noKids, .int .i64 (next : Int), .slice none 0 0]] w _
  clear hpc hbc
  have hml : m < w.heap.size := (Array.getElem?_eq_some_iff.1 h.box).1
  obtain ⟨w0, e0⟩ : ∃ w0, w.alloc (.cells #[.int .i64 k, .int .u64 x, .int .u64 y, .int .u64 z, .int .u64 u, noKids, .int .i64 (next : Int), .slice none 0 0] 60) = w0 := ⟨_, rfl⟩
  have hb0 : Below w.heap.size w w0 := by rw [← e0]; exact (Below.refl _ _).alloc (Nat.le_refl _) _
  have hz0 : w0.heap[w.heap.size]? = some (.cells #[.int .i64 k, .int .u64 x, .int .u64 y, .int .u64 z, .int .u64 u, noKids, .int .i64 (next : Int), .slice none 0 0] 60 (0, 0)) := by rw [← e0]; exact new_block _ _
  have hs0 : w0.heap.size = w.heap.size + 1 := by rw [← e0]; simp
  obtain ⟨wd, hwd⟩ : ∃ wd, w0.drew = wd := ⟨_, rfl⟩
  have hbd : Below w.heap.size w wd := by rw [← hwd]; exact hb0.drew
  have hzd : wd.heap[w.heap.size]? = some (.cells #[.int .i64 k, .int .u64 x, .int .u64 y, .int .u64 z, .int .u64 u, noKids, .int .i64 (next : Int), .slice none 0 0] 60 (0, 0)) := by rw [← hwd]; exact hz0
  have hsd : wd.heap.size = w.heap.size + 1 := by rw [← hwd]; exact hs0
  have hM := h.below hbd
  have pcell : ∀ (w' : World), w'.heap[w.heap.size]? = some (.cells #[.int .i64 k, .int .u64 x, .int .u64 y, .int .u64 z, .int .u64 u, noKids, .int .i64 (next : Int), .slice none 0 0] 60 (0, 0)) → (w'.cell? ⟨w.heap.size, 0, none⟩ = some (.int .i64 k) ∧ w'.cell? ⟨w.heap.size, 1, none⟩ = some (.int .u64 x) ∧ w'.cell? ⟨w.heap.size, 2, none⟩ = some (.int .u64 y) ∧ w'.cell? ⟨w.heap.size, 3, none⟩ = some (.int .u64 z) ∧ w'.cell? ⟨w.heap.size, 4, none⟩ = some (.int .u64 u) ∧ w'.cell? ⟨w.heap.size, 5, none⟩ = some noKids ∧ w'.cell? ⟨w.heap.size, 6, none⟩ = some (.int .i64 (next : Int)) ∧ w'.cell? ⟨w.heap.size, 7, none⟩ = some (.slice none 0 0)) := by
    intro w' hh
    refine ⟨?_, ?_, ?_, ?_, ?_, ?_, ?_, ?_⟩ <;> (rw [Lib.cell_of_heap hh]; rfl)
  have PC := hid pcell
  clear pcell
  have cm : wd.cell? ⟨m, 0, none⟩ = some pv := by rw [Lib.cell_of_heap hM.box]; rfl
  have HM := hid hM
  have HH := hid h
  clear hM h
  go_enter Try.func39, Try.ntmps39
  go_upto_region 1 with fail
  refine region_T 10 (fun w' => w'.cell? ⟨m, 0, none⟩ = some pv ∧ (w'.cell? ⟨w.heap.size, 0, none⟩ = some (.int .i64 k) ∧ w'.cell? ⟨w.heap.size, 1, none⟩ = some (.int .u64 x) ∧ w'.cell? ⟨w.heap.size, 2, none⟩ = some (.int .u64 y) ∧ w'.cell? ⟨w.heap.size, 3, none⟩ = some (.int .u64 z) ∧ w'.cell? ⟨w.heap.size, 4, none⟩ = some (.int .u64 u) ∧ w'.cell? ⟨w.heap.size, 5, none⟩ = some noKids ∧ w'.cell? ⟨w.heap.size, 6, none⟩ = some (.int .i64 (next : Int)) ∧ w'.cell? ⟨w.heap.size, 7, none⟩ = some (.slice none 0 0))) (by kernel_rfl) (by rw [hwd]; exact ⟨cm, PC.out _ hzd⟩) (fun inv hHeld => ?_)
  rw [hwd] at hHeld ⊢
  clear hwd e0
  refine anyT_take (i := 0) (oi := { dst := some 5, op := Op.move (Operand.tmp 0), type := 57, pos := "match.go:70", after := #[], guard := none }) (v := ?_) rfl (by kernel_rfl) (by kernel_rfl) (by kernel_rfl) (by decide) (by decide) (by kernel_rfl) (by kernel_rfl) (fun _ _ _ h => h) (Or.inl ⟨by rfl, ?_⟩) hHeld inv (fun inv => ?_)
  rotate_left
  · intro w hSw
    try dsimp only at hSw
    go_simp
    try with_reducible rfl
  simp only [Act.put, List.setIfInBounds_toArray, List.set_cons_zero, List.set_cons_succ]
  refine anyT_take (i := 1) (oi := { dst := some 6, op := Op.move (Operand.tmp 0), type := 57, pos := "match.go:70", after := #[], guard := none }) (v := ?_) rfl (by kernel_rfl) (by kernel_rfl) (by kernel_rfl) (by decide) (by decide) (by kernel_rfl) (by kernel_rfl) (fun _ _ _ h => h) (Or.inl ⟨by rfl, ?_⟩) hHeld inv (fun inv => ?_)
  rotate_left
  · intro w hSw
    try dsimp only at hSw
    go_simp
    try with_reducible rfl
  simp only [Act.put, List.setIfInBounds_toArray, List.set_cons_zero, List.set_cons_succ]
  refine anyT_take (i := 2) (oi := { dst := some 7, op := Op.nilCheck (Operand.tmp 6), type := 0, pos := "match.go:70", after := #[{ on := 1, ground := Ground.data }], guard := none }) (v := ?_) rfl (by kernel_rfl) (by kernel_rfl) (by kernel_rfl) (by decide) (by decide) (by kernel_rfl) (by kernel_rfl) (fun _ _ _ h => h) (Or.inl ⟨by rfl, ?_⟩) hHeld inv (fun inv => ?_)
  rotate_left
  · intro w hSw
    try dsimp only at hSw
    go_simp
    try with_reducible rfl
  simp only [Act.put, List.setIfInBounds_toArray, List.set_cons_zero, List.set_cons_succ]
  refine anyT_take (i := 3) (oi := { dst := some 8, op := Op.fieldAddr 63 (Operand.tmp 7) 0, type := 0, pos := "match.go:70", after := #[{ on := 2, ground := Ground.data }], guard := none }) (v := ?_) rfl (by kernel_rfl) (by kernel_rfl) (by kernel_rfl) (by decide) (by decide) (by kernel_rfl) (by kernel_rfl) (fun _ _ _ h => h) (Or.inl ⟨by rfl, ?_⟩) hHeld inv (fun inv => ?_)
  rotate_left
  · intro w hSw
    try dsimp only at hSw
    go_simp
    try with_reducible rfl
  simp only [Act.put, List.setIfInBounds_toArray, List.set_cons_zero, List.set_cons_succ]
  refine anyT_take (i := 4) (oi := { dst := some 9, op := Op.load 61 (Operand.tmp 8), type := 61, pos := "match.go:70", after := #[{ on := 3, ground := Ground.data }], guard := none }) (v := ?_) rfl (by kernel_rfl) (by kernel_rfl) (by kernel_rfl) (by decide) (by decide) (by kernel_rfl) (by kernel_rfl) (fun _ _ _ h => h) (Or.inl ⟨by rfl, ?_⟩) hHeld inv (fun inv => ?_)
  rotate_left
  · intro w hSw
    try dsimp only at hSw
    go_simp
    try with_reducible rfl
  simp only [Act.put, List.setIfInBounds_toArray, List.set_cons_zero, List.set_cons_succ]
  refine anyT_take (i := 5) (oi := { dst := some 10, op := Op.load 60 (Operand.tmp 3), type := 60, pos := "match.go:70", after := #[], guard := none }) (v := ?_) rfl (by kernel_rfl) (by kernel_rfl) (by kernel_rfl) (by decide) (by decide) (by kernel_rfl) (by kernel_rfl) (fun _ _ _ h => h) (Or.inl ⟨by rfl, ?_⟩) hHeld inv (fun inv => ?_)
  rotate_left
  · intro w hSw
    try dsimp only at hSw
    go_simp
    try with_reducible rfl
  simp only [Act.put, List.setIfInBounds_toArray, List.set_cons_zero, List.set_cons_succ]
  obtain ⟨w3, e3⟩ : ∃ w3, wd.alloc (.cells #[.int .i64 k, .int .u64 x, .int .u64 y, .int .u64 z, .int .u64 u, noKids, .int .i64 (next : Int), .slice none 0 0] 60) = w3 := ⟨_, rfl⟩
  have hb3 : Below wd.heap.size wd w3 := by rw [← e3]; exact (Below.refl _ _).alloc (Nat.le_refl _) _
  have hn3 : w3.heap[wd.heap.size]? = some (.cells #[.int .i64 k, .int .u64 x, .int .u64 y, .int .u64 z, .int .u64 u, noKids, .int .i64 (next : Int), .slice none 0 0] 60 (0, 0)) := by rw [← e3]; exact new_block _ _
  have hs3 : w3.heap.size = w.heap.size + 1 + 1 := by rw [← e3]; simp [hsd]
  have hz3 := (hb3.block w.heap.size (by omega)).trans hzd
  have hM3 := HM.out.below hb3
  have cm3 : w3.cell? ⟨m, 0, none⟩ = some pv := by rw [Lib.cell_of_heap hM3.box]; rfl
  have HM3 := hid hM3
  clear hM3
  refine anyT_next (i := 6) (o := { dst := some 11, op := Op.buildSlice 61 1 #[(0, Operand.tmp 10)], type := 61, pos := "match.go:70", after := #[{ on := 5, ground := Ground.data }], guard := none }) (by kernel_rfl) rfl (by decide) inv (fun inv K' hK => ?_)
  go_simp
  refine hK.out _ _ ⟨cm3, PC.out _ hz3⟩ ?_
  clear hK K'
  try simp only [Act.put, List.setIfInBounds_toArray, List.set_cons_zero, List.set_cons_succ]
  obtain ⟨i0, hi, hq0, hq1, hq2⟩ := info_parts info60
  refine anyT_next (i := 7) (o := { dst := some 12, op := Op.call { callee := Callee.builtin Builtin.append, args := #[Operand.tmp 9, Operand.tmp 11], argTypes := #[61, 61] }, type := 61, pos := "match.go:70", after := #[{ on := 4, ground := Ground.data }, { on := 6, ground := Ground.data }], guard := none }) (by kernel_rfl) rfl (by decide) inv (fun inv K' hK => ?_)
  simp only [Region.wanted]
  rw [if_pos trivial]
  refine wp_append_own_at (.tmp 9) (.tmp 11) 61 rfl B 60 i0 (.agg zero8) 8 96 Try.underlying61 hi hq0 hq1 hq2 rfl (by decide) pv P.length _ rfl HM3.out.row ⟨w.heap.size + 1, 0, none⟩ 1 1 [.int .i64 k, .int .u64 x, .int .u64 y, .int .u64 z, .int .u64 u, noKids, .int .i64 (next : Int), .slice none 0 0] rfl rfl ?c1 ?c2 ?c3 ?c4 ?c5 ?_
  case c1 =>
    intro j v hj
    rw [hsd] at hn3
    have := Lib.cell_of_heap hn3 j
    rw [show (⟨w.heap.size + 1, 0, none⟩ : Addr).add j = ⟨w.heap.size + 1, j, none⟩ by simp [Addr.add]; omega]
    rw [this, ← hj]
    simp
  case c2 => intro v hv; simp at hv; rcases hv with rfl | rfl | rfl | rfl | rfl | rfl | rfl | rfl <;> rfl
  case c3 => unfold maxLen; omega
  case c4 => omega
  case c5 => omega
  intro v' w4 hown' hgrow hnil hat
  have hm4 := (hgrow.block m (by omega) (fun e => HM3.out.apm e.symm)).trans HM3.out.box
  have hz4 := (hgrow.block w.heap.size (by omega) (fun e => by have := (HH.out.row.lt _ e.symm).2; omega)).trans hz3
  have cm4 : w4.cell? ⟨m, 0, none⟩ = some pv := by rw [Lib.cell_of_heap hm4]; rfl
  have fm4 : w4.frozen? ⟨m, 0, none⟩ = false := Lib.frozen_of_heap hm4 0
  obtain ⟨vo, vc, rfl⟩ : ∃ vo vc, v' = .slice vo (P.length + 1) vc := by
    rcases hown'.2 with ⟨_, h0⟩ | ⟨g, cap, cur, rfl, _⟩
    · omega
    · exact ⟨_, _, rfl⟩
  have HF := hid (HM3.out.pushed (pl := ⟨b, next, []⟩) rfl (by rw [HPC.out]; exact hown') hgrow hat)
  have hml4 : m < w4.heap.size := (Array.getElem?_eq_some_iff.1 hm4).1
  have cm5 : (w4.setCell ⟨m, 0, none⟩ (.slice vo (P.length + 1) vc)).cell? ⟨m, 0, none⟩ = some (.slice vo (P.length + 1) vc) := by rw [Lib.cell_of_heap HF.out.box]; rfl
  obtain ⟨w5, e5⟩ : ∃ w5, w4.setCell ⟨m, 0, none⟩ (.slice vo (P.length + 1) vc) = w5 := ⟨_, rfl⟩
  have hl5 : LF w w5 (Own m pv AS) (Own m (.slice vo (P.length + 1) vc) (AS ++ [.slice none 0 0])) := by
    rw [← e5]
    refine ⟨hgrow.os.trans (hb3.os.trans hbd.os), hgrow.tape.trans (hb3.tape.trans hbd.tape), hgrow.output.trans (hb3.output.trans hbd.output), by have := hgrow.size; simp; omega, fun g hg hO => ?_, fun g hg => ?_⟩
    · exact (Below.heap_setCell w4 ⟨m, 0, none⟩ _ g (fun e => hO (.inl e))).trans ((hgrow.block g (by omega) (fun e => hO (.inr (.inl e.symm)))).trans ((hb3.block g (by omega)).trans (hbd.block g hg)))
    · rcases hg with h1 | h1 | ⟨a, ha, h1⟩
      · exact .inl (.inl h1)
      · rcases hat with e | e
        · exact .inl (.inr (.inl (by rw [← e]; exact h1)))
        · rw [e] at h1; obtain rfl := Option.some.inj h1; exact .inr (by omega)
      · simp at ha
        rcases ha with ha | rfl
        · exact .inl (.inr (.inr ⟨a, ha, h1⟩))
        · cases h1
  rw [e5] at cm5
  have HF5 : Hid (MRep B m w5 (.slice vo (P.length + 1) vc) (AS ++ [.slice none 0 0]) (P ++ [⟨b, next, []⟩])) := by rw [← e5]; exact HF.out
  clear hown' hgrow hnil hat HF
  refine hK.out _ _ ⟨cm4, PC.out _ hz4⟩ ?_
  clear hK K'
  try simp only [Act.put, List.setIfInBounds_toArray, List.set_cons_zero, List.set_cons_succ]
  refine anyT_take (i := 8) (oi := { dst := some 13, op := Op.nilCheck (Operand.tmp 5), type := 0, pos := "match.go:70", after := #[{ on := 0, ground := Ground.data }, { on := 0, ground := Ground.phase }, { on := 1, ground := Ground.phase }, { on := 2, ground := Ground.phase }, { on := 3, ground := Ground.phase }, { on := 4, ground := Ground.phase }, { on := 5, ground := Ground.phase }, { on := 6, ground := Ground.phase }, { on := 7, ground := Ground.phase }], guard := none }) (v := ?_) rfl (by kernel_rfl) (by kernel_rfl) (by kernel_rfl) (by decide) (by decide) (by kernel_rfl) (by kernel_rfl) (fun _ _ _ h => h) (Or.inl ⟨by rfl, ?_⟩) ⟨cm4, PC.out _ hz4⟩ inv (fun inv => ?_)
  rotate_left
  · intro w hSw
    try dsimp only at hSw
    go_simp
    try with_reducible rfl
  simp only [Act.put, List.setIfInBounds_toArray, List.set_cons_zero, List.set_cons_succ]
  refine anyT_take (i := 9) (oi := { dst := some 14, op := Op.fieldAddr 63 (Operand.tmp 13) 0, type := 0, pos := "match.go:70", after := #[{ on := 8, ground := Ground.data }, { on := 0, ground := Ground.phase }, { on := 1, ground := Ground.phase }, { on := 2, ground := Ground.phase }, { on := 3, ground := Ground.phase }, { on := 4, ground := Ground.phase }, { on := 5, ground := Ground.phase }, { on := 6, ground := Ground.phase }, { on := 7, ground := Ground.phase }], guard := none }) (v := ?_) rfl (by kernel_rfl) (by kernel_rfl) (by kernel_rfl) (by decide) (by decide) (by kernel_rfl) (by kernel_rfl) (fun _ _ _ h => h) (Or.inl ⟨by rfl, ?_⟩) ⟨cm4, PC.out _ hz4⟩ inv (fun inv => ?_)
  rotate_left
  · intro w hSw
    try dsimp only at hSw
    go_simp
    try with_reducible rfl
  simp only [Act.put, List.setIfInBounds_toArray, List.set_cons_zero, List.set_cons_succ]
  refine anyT_one (i := 10) (o := { dst := none, op := Op.store 61 (Operand.tmp 14) (Operand.tmp 12), type := 0, pos := "match.go:70", after := #[{ on := 9, ground := Ground.data }, { on := 7, ground := Ground.data }, { on := 7, ground := Ground.chain }, { on := 0, ground := Ground.phase }, { on := 1, ground := Ground.phase }, { on := 2, ground := Ground.phase }, { on := 3, ground := Ground.phase }, { on := 4, ground := Ground.phase }, { on := 5, ground := Ground.phase }, { on := 6, ground := Ground.phase }, { on := 7, ground := Ground.phase }], guard := none }) (by kernel_rfl) rfl (fun K' hK => ?_)
  go_simp
  refine hK.out _ _ (fun h => absurd h (by decide)) ?_
  clear hK K'
  try simp only [Act.put, List.setIfInBounds_toArray, List.set_cons_zero, List.set_cons_succ]
  refine anyT_done (by kernel_rfl) ?_ _
  clear cm4 fm4 hm4
  go_wp2_with fail
  go_ret
  exact ⟨_, rfl, HF5.out, hl5⟩

end Go.Proofs.Ytndefngkkikkeaa

/- regex's matcher: what a place tells, told anew. -/
namespace Go.Proofs.Ytndefngkkikkeaa
open Go Go.RowKit Go.Lib
open X3 (RX Pl)
set_option linter.unusedVariables false
set_option linter.unusedSimpArgs false

theorem owns_set {w : World} {B : Nat} {e : TypeId} {sz : Nat} {pg cap n : Nat} {xs : List Value} (h : w.ownsRow B e sz (.slice (some ⟨pg, 0, none⟩) n cap) n xs) (j : Nat) (u : Value) :
    (w.setCell ⟨pg, j, none⟩ u).ownsRow B e sz (.slice (some ⟨pg, 0, none⟩) n cap) n (xs.set j u) := by
  refine ⟨by rw [List.length_set]; exact h.1, ?_⟩
  rcases h.2 with ⟨hn, _⟩ | ⟨g, cap', cur, hv, hB, hg, hc, hcm, hs, ht⟩
  · cases hn
  · injection hv with h1 h2 h3
    have h1' : pg = g := by injection h1 with h1; injection h1
    subst h1' h3
    refine .inr ⟨pg, cap, cur.setIfInBounds j u, rfl, hB, heap_setCell_same w pg j cur e u hg, hc, hcm, by simp [hs], ?_⟩
    rw [← ht, Array.toList_setIfInBounds, List.take_set]

theorem cellsP_set : ∀ (P : List Pl) (AS : List Value) (k : Nat) (l : List Nat) (av : Value), AS.length = P.length → k < P.length →
    cellsP (P.modify k fun pl => { pl with also := l }) (AS.set k av) = (cellsP P AS).set (k * 8 + 7) av
  | p :: P, a :: AS, 0, l, av, h, hk => by
    obtain ⟨k', x, y, z, u, hbc, -⟩ := bcs_shape p.b
    simp [cellsP, plc, hbc]
  | p :: P, a :: AS, k + 1, l, av, h, hk => by
    simp only [List.modify_succ_cons, List.set_cons_succ, cellsP]
    rw [cellsP_set P AS k l av (by simpa using h) (by simpa using hk), List.set_append_right _ _ (by rw [plc_len]; omega), plc_len]
    congr 2
    omega
  | [], _, k, l, av, h, hk => by simp at hk
  | p :: P, [], _, _, _, h, _ => by simp at h

theorem MRep.restored {B m : Nat} {w1 w2 : World} {pg n cap k : Nat} {av0 av : Value} {AS : List Value} {P : List Pl} {l : List Nat} (h : MRep B m w1 (.slice (some ⟨pg, 0, none⟩) n cap) AS P)
    (hk : AS[k]? = some av0) (hg : w1.grownBy w2 av0.ownBlock) (hown : w2.ownsRow B 3 1 av l.length (l.map fun (q : Nat) => Value.int .i64 (q : Int)))
    (hat : av.ownBlock = av0.ownBlock ∨ ∃ g, av.ownBlock = some g ∧ w1.heap.size ≤ g) :
    MRep B m (w2.setCell ⟨pg, k * 8 + 7, none⟩ av) (.slice (some ⟨pg, 0, none⟩) n cap) (AS.set k av) (P.modify k fun pl => { pl with also := l }) := by
  have hkl : k < P.length := by rw [← h.lenA]; exact (List.getElem?_eq_some_iff.1 hk).1
  have hn : n = P.length := by
    rcases h.row.2 with ⟨hv, _⟩ | ⟨g, cap', cur, hv, _⟩
    · cases hv
    · injection hv
  subst hn
  have hpgl : pg < w1.heap.size := (h.row.lt pg rfl).2
  have hml : m < w1.heap.size := (Array.getElem?_eq_some_iff.1 h.box).1
  have hpm : pg ≠ m := fun e => h.apm (congrArg some e)
  have h0 : ∀ g, av0.ownBlock = some g → g ≠ m ∧ g ≠ pg := fun g hgo => ⟨(h.ap1 k av0 g hk hgo).1, fun e => (h.ap1 k av0 g hk hgo).2 (congrArg some e.symm)⟩
  have hpb : w2.heap[pg]? = w1.heap[pg]? := hg.block pg hpgl (fun e => (h0 pg e.symm).2 rfl)
  have hmb : w2.heap[m]? = w1.heap[m]? := hg.block m hml (fun e => (h0 m e.symm).1 rfl)
  have hav : ∀ g, av.ownBlock = some g → g ≠ m ∧ g ≠ pg := by
    intro g hgo
    rcases hat with e | ⟨g', e, hl⟩
    · exact h0 g (by rw [← e]; exact hgo)
    · rw [e] at hgo; obtain rfl := Option.some.inj hgo; exact ⟨by omega, by omega⟩
  have hrow : w2.ownsRow B 60 8 (.slice (some ⟨pg, 0, none⟩) P.length cap) P.length (cellsP P AS) := owns_kept h.row (fun g hgo => by obtain rfl := Option.some.inj hgo; exact hpb)
  have hset : ∀ (i : Nat) (a : Value), (AS.set k av)[i]? = some a → (i = k ∧ a = av) ∨ (i ≠ k ∧ AS[i]? = some a) := by
    intro i a hi
    by_cases e : i = k
    · subst e
      rw [List.getElem?_set_self (by rw [h.lenA]; exact hkl)] at hi
      exact .inl ⟨rfl, (Option.some.inj hi).symm⟩
    · rw [List.getElem?_set_ne (Ne.symm e)] at hi
      exact .inr ⟨e, hi⟩
  have hpi : ∀ (i : Nat) (a : Value), AS[i]? = some a → ∃ pl, P[i]? = some pl := fun i a hi => ⟨_, List.getElem?_eq_getElem (by rw [← h.lenA]; exact (List.getElem?_eq_some_iff.1 hi).1)⟩
  refine ⟨?_, h.mB, ?_, by simp [h.lenA], ?_, ?_, ?_, h.apm⟩
  · exact (Below.heap_setCell w2 ⟨pg, k * 8 + 7, none⟩ av m (Ne.symm hpm)).trans (hmb.trans h.box)
  · rw [cellsP_set P AS k l av h.lenA hkl]
    have : (P.modify k fun pl => { pl with also := l }).length = P.length := by simp
    rw [this]
    exact owns_set hrow _ _
  · intro i pl a hp hi
    rcases hset i a hi with ⟨rfl, rfl⟩ | ⟨hne, hi2⟩
    · obtain ⟨pl0, hp0⟩ := hpi i av0 hk
      rw [List.getElem?_modify, hp0] at hp
      simp at hp
      subst hp
      exact owns_kept hown (fun g hgo => Below.heap_setCell w2 ⟨pg, i * 8 + 7, none⟩ a g (hav g hgo).2)
    · have hp2 : P[i]? = some pl := by
        rw [List.getElem?_modify] at hp
        simp only [if_neg (Ne.symm hne)] at hp
        cases hP : P[i]? with
        | none => rw [hP] at hp; cases hp
        | some y => rw [hP] at hp; simpa using hp
      have ho := h.also i pl a hp2 hi2
      refine owns_kept ho (fun g hgo => ?_)
      have h1 := h.ap1 i a g hi2 hgo
      refine (Below.heap_setCell w2 ⟨pg, k * 8 + 7, none⟩ av g (fun e => h1.2 (congrArg some e.symm))).trans (hg.block g (ho.lt g hgo).2 (fun e => hne (h.ap2 i k a av0 g hi2 hk hgo e.symm)))
  · intro i a g hi hgo
    rcases hset i a hi with ⟨rfl, rfl⟩ | ⟨hne, hi2⟩
    · exact ⟨(hav g hgo).1, fun e => (hav g hgo).2 (Option.some.inj e).symm⟩
    · exact h.ap1 i a g hi2 hgo
  · intro i j a c g hi hj ha hc
    have key : ∀ (i : Nat) (a : Value), i ≠ k → AS[i]? = some a → a.ownBlock = some g → av.ownBlock = some g → False := by
      intro i a hne hi2 ha hv
      rcases hat with e | ⟨g', e, hl⟩
      · exact hne (h.ap2 i k a av0 g hi2 hk ha (by rw [← e]; exact hv))
      · rw [e] at hv; obtain rfl := Option.some.inj hv
        obtain ⟨pl, hp⟩ := hpi i a hi2
        have := ((h.also i pl a hp hi2).lt g' ha).2
        omega
    rcases hset i a hi with ⟨rfl, rfl⟩ | ⟨hne, hi2⟩
    · rcases hset j c hj with ⟨rfl, rfl⟩ | ⟨hne2, hj2⟩
      · rfl
      · exact (key j c hne2 hj2 hc ha).elim
    · rcases hset j c hj with ⟨rfl, rfl⟩ | ⟨hne2, hj2⟩
      · exact (key i a hne hi2 ha hc).elim
      · exact h.ap2 i j a c g hi2 hj2 ha hc

theorem keepS_B {S : Nat → Prop} {B : Nat} {w w' : World} (hS : ∀ g, S g → g < B) (h : Below B w w') : KeepS S w w' := ⟨h.size, fun g hg _ => h.block g (hS g hg)⟩

end Go.Proofs.Ytndefngkkikkeaa

/- regex's matcher: lay. -/
namespace Go.Proofs.Ytndefngkkikkeaa
open Go Go.RowKit Go.Lib
open X3 (RX Pl)
set_option linter.unusedVariables false
set_option linter.unusedSimpArgs false

theorem LF.restored {B m : Nat} {w1 w2 : World} {pg n cap k j : Nat} {av0 av : Value} {AS : List Value} {P : List Pl} (h : MRep B m w1 (.slice (some ⟨pg, 0, none⟩) n cap) AS P)
    (hk : AS[k]? = some av0) (hg : w1.grownBy w2 av0.ownBlock) (hat : av.ownBlock = av0.ownBlock ∨ ∃ g, av.ownBlock = some g ∧ w1.heap.size ≤ g) :
    LF w1 (w2.setCell ⟨pg, j, none⟩ av) (Own m (.slice (some ⟨pg, 0, none⟩) n cap) AS) (Own m (.slice (some ⟨pg, 0, none⟩) n cap) (AS.set k av)) := by
  refine ⟨hg.os, hg.tape, hg.output, by have := hg.size; simpa using this, fun g hgl hO => ?_, fun g ho => ?_⟩
  · exact (Below.heap_setCell w2 ⟨pg, j, none⟩ av g (fun e => hO (.inr (.inl (congrArg some e.symm))))).trans (hg.block g hgl (fun e => hO (.inr (.inr ⟨av0, List.mem_iff_getElem?.2 ⟨k, hk⟩, e.symm⟩))))
  · rcases ho with h1 | h1 | ⟨a, ha, h1⟩
    · exact .inl (.inl h1)
    · exact .inl (.inr (.inl h1))
    · rcases List.mem_or_eq_of_mem_set ha with ha | rfl
      · exact .inl (.inr (.inr ⟨a, ha, h1⟩))
      · rcases hat with e | ⟨g', e, hl⟩
        · exact .inl (.inr (.inr ⟨av0, List.mem_iff_getElem?.2 ⟨k, hk⟩, by rw [← e]; exact h1⟩))
        · rw [e] at h1; obtain rfl := Option.some.inj h1; exact .inr hl

/-- What lay comes to. -/
def LayP (B m : Nat) (w : World) (pv : Value) (AS : List Value) (r : Nat × List Pl) (e : Ending) (w' : World) : Prop :=
  ∃ pv' AS', e = .returned (.int .i64 (r.1 : Nat)) ∧ MRep B m w' pv' AS' r.2 ∧ LF w w' (Own m pv AS) (Own m pv' AS')

theorem lay_empty (B m b : Nat) (w : World) (pv : Value) (AS : List Value) (P : List Pl) (hM : MRep B m w pv AS P) :
    Calls Try.prog 25 #[.pointer (some ⟨m, 0, none⟩), nodeV 0 0 0 0 0 noKids, .int .i64 (b : Int)] w (LayP B m w pv AS (b, P)) := by
  have HM := hid hM
  clear hM
  go_enter Try.func25, Try.ntmps25
  go_wp2_with fail
  go_ret
  exact ⟨pv, AS, rfl, HM.out.below ((Below.refl _ _).alloc (Nat.le_refl _) _), LF.ofBelow ((Below.refl _ _).alloc (Nat.le_refl _) _)⟩

set_option maxRecDepth 100000 in
set_option maxHeartbeats 2000000 in
theorem lay_bytes (B m b : Nat) (w : World) (pv : Value) (AS : List Value) (P : List Pl) (x y z u : Nat) (hM : MRep B m w pv AS P) (hP : P.length ≤ 1000000) (hBw : B ≤ w.heap.size) :
    Calls Try.prog 25 #[.pointer (some ⟨m, 0, none⟩), nodeV 1 x y z u noKids, .int .i64 (b : Int)] w (LayP B m w pv AS (P.length, P ++ [⟨.bytes x y z u, b, []⟩])) := by
  obtain ⟨w0, e0⟩ : ∃ w0, w.alloc (.cells #[.int .i64 1, .int .u64 (x : Int), .int .u64 (y : Int), .int .u64 (z : Int), .int .u64 (u : Int), noKids] 28) = w0 := ⟨_, rfl⟩
  have hb0 : Below w.heap.size w w0 := by rw [← e0]; exact (Below.refl _ _).alloc (Nat.le_refl _) _
  have hz0 : w0.heap[w.heap.size]? = some (.cells #[.int .i64 1, .int .u64 (x : Int), .int .u64 (y : Int), .int .u64 (z : Int), .int .u64 (u : Int), noKids] 28 (0, 0)) := by rw [← e0]; exact new_block _ _
  have hs0 : w0.heap.size = w.heap.size + 1 := by rw [← e0]; simp
  have KA := hid (add_any B m w0 pv AS P (.bytes x y z u) b (hM.below hb0) hP (by omega))
  obtain ⟨p0, p1, p2, p3, p4, p5⟩ := cells6 hz0
  have HM := hid hM
  clear hM
  go_enter Try.func25, Try.ntmps25
  go_wp2_with fail
  refine KA.out.mono ?_
  rintro e w1 ⟨pv', rfl, hM', hl⟩
  have HM' := hid hM'
  have HL := hid hl
  clear hM' hl
  go_wp2_with fail
  go_ret
  exact ⟨pv', _, rfl, HM'.out, (LF.ofBelow hb0).trans HL.out⟩

set_option maxRecDepth 100000 in
set_option maxHeartbeats 4000000 in
theorem lay_cat (S : Nat → Prop) (B m b : Nat) (hS : ∀ g, S g → g < B) (w : World) (pv : Value) (AS : List Value) (P : List Pl) (l : List RX) (g cap : Nat) (hl : RepLS S w l g 0) (hSg : S g) (hgw : g < w.heap.size) (hcap : l.length ≤ cap) (hM : MRep B m w pv AS P) (hb : b < P.length) (hBd : X3.Bd P P.length) (hP : P.length + X3.sizeL l ≤ 100000) (hmu : X3.muL P + 4 * X3.sizeL l ≤ 1000000) (hBw : B ≤ w.heap.size)
    (ih : ∀ (k : Nat) (hk : k < l.length) (w : World) (v : Value) (b : Nat) (pv : Value) (AS : List Value) (P : List Pl), RepS S w l[k] v → MRep B m w pv AS P → b < P.length → X3.Bd P P.length → P.length + l[k].size ≤ 100000 → X3.muL P + 4 * l[k].size ≤ 1000000 → B ≤ w.heap.size → Calls Try.prog 25 #[.pointer (some ⟨m, 0, none⟩), v, .int .i64 (b : Int)] w (LayP B m w pv AS (X3.layX l[k] b P))) :
    Calls Try.prog 25 #[.pointer (some ⟨m, 0, none⟩), nodeV 2 0 0 0 0 (.slice (some ⟨g, 0, none⟩) l.length cap), .int .i64 (b : Int)] w (LayP B m w pv AS (X3.layCat l b P)) := by
  have IH := hid ih
  have HL := hid hl
  clear ih hl
  have hll : l.length ≤ 100000 := by have := length_le_sizeL l; omega
  obtain ⟨w0, e0⟩ : ∃ w0, w.alloc (.cells #[.int .i64 2, .int .u64 0, .int .u64 0, .int .u64 0, .int .u64 0, .slice (some ⟨g, 0, none⟩) l.length cap] 28) = w0 := ⟨_, rfl⟩
  have hb0 : Below w.heap.size w w0 := by rw [← e0]; exact (Below.refl _ _).alloc (Nat.le_refl _) _
  have hz0 : w0.heap[w.heap.size]? = some (.cells #[.int .i64 2, .int .u64 0, .int .u64 0, .int .u64 0, .int .u64 0, .slice (some ⟨g, 0, none⟩) l.length cap] 28 (0, 0)) := by rw [← e0]; exact new_block _ _
  have hs0 : w0.heap.size = w.heap.size + 1 := by rw [← e0]; simp
  have HM0 := hid (hM.below hb0)
  have HO := hid (fun (g : Nat) (ho : Own m pv AS g) => hM.own_ge ho)
  have HM := hid hM
  have HZ := hid hz0
  obtain ⟨p0, p1, p2, p3, p4, p5⟩ := cells6 hz0
  have hgB := hS g hSg
  have HBD := hid hBd
  have HSND := hid (fun (k : Nat) => X3.layCat_sound (l.drop k) b P hBd hb)
  clear hM hz0 hBd
  obtain ⟨RR, HRR⟩ : ∃ RR, Hid (RR = X3.layCat l b P) := ⟨_, hid rfl⟩
  rw [← HRR.out]
  go_enter Try.func25, Try.ntmps25
  go_wp2_with fail
  clear p0 p1 p2 p3 p4 p5 e0
  go_loopw [2, 7] (fun t2 t7 wr => ∃ (k : Nat) (pv' : Value) (AS' : List Value), k ≤ l.length ∧ t7 = .int .i64 ((k : Int) - 1) ∧ t2 = .int .i64 (((X3.layCat (l.drop k) b P).1 : Nat) : Int) ∧ MRep B m wr pv' AS' (X3.layCat (l.drop k) b P).2 ∧ LF w0 wr (Own m pv AS) (Own m pv' AS')) (fun _ t7 _ => (RowKit.intOf t7 + 1).toNat)
  case atStart => exact ⟨l.length, pv, AS, Nat.le_refl _, rfl, by rw [List.drop_length]; rfl, by rw [List.drop_length]; exact HM0.out, LF.ofBelow (Below.refl _ _)⟩
  case round =>
    obtain ⟨k, pv', AS', hk, rfl, rfl, hMr, hF⟩ := hrel
    have hBr : Below B w0 wr := hF.below HM0.out (by omega)
    have hsz := hF.size
    have hbox := (hF.same w.heap.size (by omega) (fun ho => by have := (HO.out _ ho).2; omega)).trans HZ.out
    obtain ⟨p0, p1, p2, p3, p4, p5⟩ := cells6 hbox
    cases k with
    | zero =>
      have h1 : ¬ (0 : Int) ≤ ((0 : Nat) : Int) - 1 := by decide
      rw [List.drop_zero, ← HRR.out] at hMr
      have hR1 : (X3.layCat (l.drop 0) b P).1 = RR.1 := by rw [List.drop_zero, HRR.out]
      simp only [hR1]
      have HMr := hid hMr
      have HF := hid hF
      clear hMr hF hbox p0 p1 p2 p3 p4 p5 hR1
      go_wp2_with fail
      go_ret
      exact ⟨pv', AS', rfl, HMr.out, (LF.ofBelow hb0).trans HF.out⟩
    | succ k =>
      have hlt : k < l.length := by omega
      obtain ⟨kd', x', y', z', u', kv', hR, c0, c1, c2, c3, c4, c5⟩ := RepLS.at_ (HL.out.kept (keepS_B hS ((Below.refl B w).trans ((hb0.mono hBw).trans hBr))) hSg hgw) k hlt
      rw [Nat.zero_add] at c0 c1 c2 c3 c4 c5
      obtain ⟨ko, kn, kc, rfl⟩ := hR.slice
      have hsnd := HSND.out (k + 1)
      have hsl := X3.sizeL_le_drop l k hlt
      have KI := hid (IH.out k hlt wr _ (X3.layCat (l.drop (k + 1)) b P).1 pv' AS' (X3.layCat (l.drop (k + 1)) b P).2 hR hMr hsnd.2.1 hsnd.1 (by have := hsnd.2.2.1; omega) (by have := hsnd.2.2.2; omega) (by omega))
      have HST : Hid (X3.layX l[k] (X3.layCat (l.drop (k + 1)) b P).1 (X3.layCat (l.drop (k + 1)) b P).2 = X3.layCat (l.drop k) b P) := hid (by rw [List.drop_eq_getElem_cons hlt]; rfl)
      rw [HST.out] at KI
      have ek : (((k + 1 : Nat) : Int) - 1) = (k : Int) := by omega
      have h1 : (0 : Int) ≤ (k : Int) := by omega
      have h2 : (k : Int) < (l.length : Int) := by omega
      have HF := hid hF
      simp only [ek]
      clear hMr hR hF hsnd
      generalize (X3.layCat (l.drop (k + 1)) b P).1 = bb at *
      go_wp2_with fail
      refine KI.out.mono ?_
      rintro e w2 ⟨pv2, AS2, rfl, hM2, hF2⟩
      have HM2 := hid hM2
      have HF2 := hid hF2
      clear hM2 hF2
      go_wp2_with fail
      refine ⟨⟨k, pv2, AS2, by omega, rfl, rfl, HM2.out, HF.out.trans HF2.out⟩, ?_⟩
      show ((k : Int) - 1 + 1).toNat < ((k : Int) + 1).toNat
      omega

theorem MRep.cellat {B m : Nat} {w : World} {pg n cap : Nat} {AS : List Value} {P : List Pl} (h : MRep B m w (.slice (some ⟨pg, 0, none⟩) n cap) AS P) {k : Nat} {pl : Pl} {av : Value} (hp : P[k]? = some pl) (hk : AS[k]? = some av) :
    (∀ j, j < 8 → w.cell? ⟨pg, k * 8 + j, none⟩ = (plc pl av)[j]?) ∧ (∀ j, w.frozen? ⟨pg, j, none⟩ = false) ∧ n = P.length ∧ n ≤ cap := by
  have hkl : k < P.length := (List.getElem?_eq_some_iff.1 hp).1
  rcases h.row.2 with ⟨hv, _⟩ | ⟨g, cap', cur, hv, hB, hg, hc, hcm, hs, ht⟩
  · cases hv
  · injection hv with h1 h2 h3
    have h1' : pg = g := by injection h1 with h1; injection h1
    subst h1' h2 h3
    refine ⟨fun j hj => ?_, fun j => Lib.frozen_of_heap hg j, rfl, hc⟩
    rw [Lib.cell_of_heap hg, ← cellsP_at P AS k pl av h.lenA hp hk j hj, ← ht, List.getElem?_take, if_pos (by omega), Array.getElem?_toList]

theorem plc7 (pl : Pl) (av : Value) : (plc pl av)[7]? = some av := by
  obtain ⟨k, x, y, z, u, h, -⟩ := bcs_shape pl.b
  simp [plc, h]
theorem MRep.sl {B m : Nat} {w : World} {pv : Value} {AS : List Value} {P : List Pl} (h : MRep B m w pv AS P) (h0 : 0 < P.length) : ∃ pg cap, pv = .slice (some ⟨pg, 0, none⟩) P.length cap := by
  rcases h.row.2 with ⟨_, h3⟩ | ⟨g, cap', cur, hv, _⟩
  · omega
  · exact ⟨g, cap', hv⟩

set_option maxRecDepth 100000 in
set_option maxHeartbeats 4000000 in
theorem lay_star (S : Nat → Prop) (B m b : Nat) (hS : ∀ g, S g → g < B) (w : World) (pv : Value) (AS : List Value) (P : List Pl) (r : RX) (kv : Value) (hR : RepS S w (.star r) (nodeV 4 0 0 0 0 kv)) (hM : MRep B m w pv AS P) (hb : b < P.length) (hBd : X3.Bd P P.length) (hP : P.length + (1 + r.size) ≤ 100000) (hmu : X3.muL P + 4 * (1 + r.size) ≤ 1000000) (hBw : B ≤ w.heap.size)
    (ih : ∀ (w : World) (v : Value) (b : Nat) (pv : Value) (AS : List Value) (P : List Pl), RepS S w r v → MRep B m w pv AS P → b < P.length → X3.Bd P P.length → P.length + r.size ≤ 100000 → X3.muL P + 4 * r.size ≤ 1000000 → B ≤ w.heap.size → Calls Try.prog 25 #[.pointer (some ⟨m, 0, none⟩), v, .int .i64 (b : Int)] w (LayP B m w pv AS (X3.layX r b P))) :
    Calls Try.prog 25 #[.pointer (some ⟨m, 0, none⟩), nodeV 4 0 0 0 0 kv, .int .i64 (b : Int)] w (LayP B m w pv AS (X3.layX (.star r) b P)) := by
  have IH := hid ih
  clear ih
  obtain ⟨ko, kn, kc, rfl⟩ := hR.slice
  obtain ⟨w0, e0⟩ : ∃ w0, w.alloc (.cells #[.int .i64 4, .int .u64 0, .int .u64 0, .int .u64 0, .int .u64 0, .slice ko kn kc] 28) = w0 := ⟨_, rfl⟩
  have hb0 : Below w.heap.size w w0 := by rw [← e0]; exact (Below.refl _ _).alloc (Nat.le_refl _) _
  have hz0 : w0.heap[w.heap.size]? = some (.cells #[.int .i64 4, .int .u64 0, .int .u64 0, .int .u64 0, .int .u64 0, .slice ko kn kc] 28 (0, 0)) := by rw [← e0]; exact new_block _ _
  have hs0 : w0.heap.size = w.heap.size + 1 := by rw [← e0]; simp
  have HM0 := hid (hM.below hb0)
  have HO := hid (fun (g : Nat) (ho : Own m pv AS g) => hM.own_ge ho)
  have KA := hid (add_any B m w0 pv AS P .empty 0 (hM.below hb0) (by omega) (by omega))
  have HR := hid hR
  have HBD := hid hBd
  have HZ := hid hz0
  obtain ⟨p0, p1, p2, p3, p4, p5⟩ := cells6 hz0
  clear hM hR hBd hz0
  obtain ⟨RR, HRR⟩ : ∃ RR, Hid (RR = X3.layX (.star r) b P) := ⟨_, hid rfl⟩
  rw [← HRR.out]
  go_enter Try.func25, Try.ntmps25
  go_wp2_with fail
  refine KA.out.mono ?_
  rintro e w1 ⟨pv1, rfl, hM1, hF1⟩
  have hsz1 := hF1.size
  have hbox := (hF1.same w.heap.size (by omega) (fun ho => by have := (HO.out _ ho).2; omega)).trans HZ.out
  have hB1 : Below B w w1 := (hb0.mono hBw).trans (hF1.below HM0.out (by omega))
  obtain ⟨vk, hRk, hK⟩ := kid_any (HR.out.kept (keepS_B hS hB1))
  have HK := hid hK
  have HRk := hid hRk
  have HM1 := hid hM1
  have HF1 := hid hF1
  clear p0 p1 p2 p3 p4 p5 hM1 hF1 hRk hK
  obtain ⟨p0, p1, p2, p3, p4, p5⟩ := cells6 hbox
  clear hbox
  go_wp2_with fail
  refine HK.out.mono ?_
  rintro e w2 ⟨rfl, hb2⟩
  have hs2 := hb2.size
  have hlP : (P ++ [X3.none_]).length = P.length + 1 := by simp
  have hBd1 : X3.Bd (P ++ [X3.none_]) (P ++ [X3.none_]).length := (HBD.out.mono (by simp)).app (by simp [X3.none_]) (by simp [X3.none_])
  have KI := hid (IH.out w2 _ P.length pv1 _ (P ++ [X3.none_]) (HRk.out.kept (keepS_below hb2)) (HM1.out.below hb2) (by omega) hBd1 (by omega) (by rw [X3.muL_app]; simp [X3.none_]; omega) (by omega))
  have HM2 := hid (HM1.out.below hb2)
  have HSND := hid (X3.lay_sound r P.length (P ++ [X3.none_]) hBd1 (by omega))
  have HKEEP := hid (X3.lay_keep r P.length (P ++ [X3.none_]))
  have HRX : Hid (RR = (P.length, X3.setAlso (X3.layX r P.length (P ++ [X3.none_])).2 P.length [b, (X3.layX r P.length (P ++ [X3.none_])).1])) := HRR
  clear p0 p1 p2 p3 p4 p5 HRR HM1 hBd1
  generalize hLX : X3.layX r P.length (P ++ [X3.none_]) = LX at *
  clear hLX
  obtain ⟨f, P2⟩ := LX
  go_wp2_with fail
  refine KI.out.mono ?_
  rintro e w3 ⟨pv2, AS2, rfl, hM3, hF3⟩
  have hk1 := HKEEP.out.1
  rw [hlP] at hk1
  replace hk1 : P.length + 1 ≤ P2.length := hk1
  have hp2 : P2[P.length]? = some X3.none_ := by
    have := HKEEP.out.2 P.length (by omega)
    rw [List.getElem?_append_right (Nat.le_refl _), Nat.sub_self] at this
    exact this
  obtain ⟨pg, cap2, rfl⟩ := hM3.sl (by show 0 < P2.length; omega)
  replace hM3 : MRep B m w3 (.slice (some ⟨pg, 0, none⟩) P2.length cap2) AS2 P2 := hM3
  obtain ⟨av0, hav0⟩ : ∃ av0, AS2[P.length]? = some av0 := ⟨_, List.getElem?_eq_getElem (by rw [hM3.lenA]; omega)⟩
  have hs3 := hF3.size
  have cm : w3.cell? ⟨m, 0, none⟩ = some (.slice (some ⟨pg, 0, none⟩) P2.length cap2) := by rw [Lib.cell_of_heap hM3.box]; rfl
  have h1 : (P.length : Int) < (P2.length : Int) := by omega
  obtain ⟨w4, e4⟩ : ∃ w4, w3.alloc (.cells #[.int .i64 (b : Int), .int .i64 (f : Int)] 3) = w4 := ⟨_, rfl⟩
  have hb4 : Below w3.heap.size w3 w4 := by rw [← e4]; exact (Below.refl _ _).alloc (Nat.le_refl _) _
  have hn4 : w4.heap[w3.heap.size]? = some (.cells #[.int .i64 (b : Int), .int .i64 (f : Int)] 3 (0, 0)) := by rw [← e4]; exact new_block _ _
  have hg4 : w3.grownBy w4 av0.ownBlock := by rw [← e4]; exact World.grownBy_alloc _ _ _
  have hM4 := hM3.below hb4
  obtain ⟨hc4, hf4, -, -⟩ := hM4.cellat hp2 hav0
  have c7 := (hc4 7 (by decide)).trans (plc7 _ _)
  have f7 := hf4 (P.length * 8 + 7)
  have hown : w4.ownsRow B 3 1 (.slice (some ⟨w3.heap.size, 0, none⟩) 2 2) [b, f].length ([b, f].map fun (q : Nat) => Value.int .i64 (q : Int)) := ⟨rfl, .inr ⟨w3.heap.size, 2, _, rfl, by omega, hn4, Nat.le_refl _, by decide, rfl, rfl⟩⟩
  have HF := hid (hM3.restored hav0 hg4 hown (.inr ⟨_, rfl, Nat.le_refl _⟩))
  have HL := hid (LF.restored (j := P.length * 8 + 7) hM3 hav0 hg4 (.inr ⟨_, rfl, Nat.le_refl _⟩) (av := .slice (some ⟨w3.heap.size, 0, none⟩) 2 2))
  have HF3 := hid hF3
  clear hM3 hM4 hc4 hf4 hown hg4 hF3
  go_wp2_with fail
  go_ret
  have hRX := HRX.out
  subst hRX
  exact ⟨_, _, rfl, HF.out, (LF.ofBelow hb0).trans (HF1.out.trans ((LF.ofBelow hb2).trans (HF3.out.trans HL.out)))⟩

end Go.Proofs.Ytndefngkkikkeaa
