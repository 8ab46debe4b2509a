/- The document's rows of items: in order, each once; the program's rows as the document's. -/
import Derived.Test.YtjpbhbfklkipkaaDoorRd
namespace Go.Proofs.X14
set_option linter.unusedVariables false
def lessB (a b : It) : Bool := decide (a.1 < b.1) || (decide (a.1 = b.1) && decide (a.2 < b.2))
theorem lessB_iff {a b : It} : lessB a b = true ↔ Less a b := by unfold lessB Less; simp
/-- The place of the least one that is not there yet, of the first so many. -/
def AtX (O l : List It) (i : Nat) (a : Int) : Prop :=
  (a = -1 ∧ ∀ x ∈ l.take i, x ∈ O) ∨ ∃ (q : Nat) (y : It), a = (q : Int) ∧ q < i ∧ l[q]? = some y ∧ y ∉ O ∧ ∀ x ∈ l.take i, x ∉ O → ¬ Less x y
theorem AtX.start (O l : List It) : AtX O l 0 (-1) := .inl ⟨rfl, by simp⟩
theorem mem_take_succ {l : List It} {i : Nat} {x y : It} (hx : l[i]? = some x) (h : y ∈ l.take (i + 1)) : y ∈ l.take i ∨ y = x := by
  rw [List.take_add_one, hx] at h
  rcases List.mem_append.1 h with h | h
  · exact .inl h
  · exact .inr (by simpa using h)
theorem AtX.skip {O l : List It} {i : Nat} {a : Int} {x : It} (h : AtX O l i a) (hx : l[i]? = some x) (hin : x ∈ O) : AtX O l (i + 1) a := by
  rcases h with ⟨h1, h2⟩ | ⟨q, y, h1, h2, h3, h4, h5⟩
  · exact .inl ⟨h1, fun z hz => by
      rcases mem_take_succ hx hz with e | e
      · exact h2 z e
      · rw [e]; exact hin⟩
  · exact .inr ⟨q, y, h1, by omega, h3, h4, fun z hz hn => by
      rcases mem_take_succ hx hz with e | e
      · exact h5 z e hn
      · exact absurd (e ▸ hin) hn⟩
theorem AtX.new {O l : List It} {i : Nat} {x : It} (h : AtX O l i (-1)) (hx : l[i]? = some x) (hin : x ∉ O) : AtX O l (i + 1) (i : Int) := by
  rcases h with ⟨_, h2⟩ | ⟨q, y, h1, _⟩
  · exact .inr ⟨i, x, rfl, by omega, hx, hin, fun z hz hn => by
      rcases mem_take_succ hx hz with e | e
      · exact absurd (h2 z e) hn
      · rw [e]; exact Less.irrefl⟩
  · omega
theorem AtX.less {O l : List It} {i q : Nat} {x y : It} (h : AtX O l i (q : Int)) (hx : l[i]? = some x) (hin : x ∉ O) (hy : l[q]? = some y) (hl : Less x y) : AtX O l (i + 1) (i : Int) := by
  rcases h with ⟨h1, _⟩ | ⟨q', y', h1, h2, h3, h4, h5⟩
  · omega
  · obtain rfl : q = q' := by omega
    rw [hy] at h3
    injection h3 with h3
    subst h3
    exact .inr ⟨i, x, rfl, by omega, hx, hin, fun z hz hn => by
      rcases mem_take_succ hx hz with e | e
      · exact fun hz2 => h5 z e hn (hz2.trans hl)
      · rw [e]; exact Less.irrefl⟩
theorem AtX.keep {O l : List It} {i q : Nat} {x y : It} (h : AtX O l i (q : Int)) (hx : l[i]? = some x) (hy : l[q]? = some y) (hl : ¬ Less x y) : AtX O l (i + 1) (q : Int) := by
  rcases h with ⟨h1, _⟩ | ⟨q', y', h1, h2, h3, h4, h5⟩
  · omega
  · obtain rfl : q = q' := by omega
    rw [hy] at h3
    injection h3 with h3
    subst h3
    exact .inr ⟨q, y, rfl, by omega, hy, h4, fun z hz hn => by
      rcases mem_take_succ hx hz with e | e
      · exact h5 z e hn
      · rw [e]; exact hl⟩
/-- While items are put in order: the least ones are there. -/
structure RisX (l O : List It) (m : Nat) : Prop where
  rise : Rise O
  sub : ∀ x ∈ O, x ∈ l
  low : ∀ x ∈ l, x ∉ O → ∀ y ∈ O, Less y x
  left : (l.filter fun x => decide (x ∉ O)).length + m ≤ l.length ∨ ∀ x ∈ l, x ∈ O
  len : O.length ≤ m
theorem RisX.start (l : List It) : RisX l [] 0 := ⟨List.Pairwise.nil, by simp, by simp, .inl (by simpa using List.length_filter_le _ _), Nat.le_refl _⟩
theorem filter_less {l O : List It} {x : It} (hx : x ∈ l) (hn : x ∉ O) : (l.filter fun z => decide (z ∉ O ++ [x])).length + 1 ≤ (l.filter fun z => decide (z ∉ O)).length := by
  have mono : ∀ l : List It, (l.filter fun z => decide (z ∉ O ++ [x])).length ≤ (l.filter fun z => decide (z ∉ O)).length := fun l => by
    induction l with
    | nil => exact Nat.le_refl _
    | cons a l ih =>
      rw [List.filter_cons, List.filter_cons]
      by_cases h1 : a ∉ O ++ [x]
      · have h2 : a ∉ O := fun h => h1 (List.mem_append_left _ h)
        rw [if_pos (by simpa using h1), if_pos (by simpa using h2)]
        simpa using ih
      · rw [if_neg (by simpa using h1)]
        split
        · simp only [List.length_cons]; omega
        · exact ih
  induction l with
  | nil => cases hx
  | cons a l ih =>
    rw [List.filter_cons, List.filter_cons]
    rcases List.mem_cons.1 hx with e | hx
    · subst e
      rw [if_neg (by simp), if_pos (by simpa using hn)]
      have := mono l
      simp only [List.length_cons]; omega
    · have h0 := ih hx
      by_cases h1 : a ∉ O ++ [x]
      · have h2 : a ∉ O := fun h => h1 (List.mem_append_left _ h)
        rw [if_pos (by simpa using h1), if_pos (by simpa using h2)]
        simp only [List.length_cons]; omega
      · rw [if_neg (by simpa using h1)]
        split
        · simp only [List.length_cons]; omega
        · exact h0
theorem RisX.none_ {l O : List It} {m : Nat} (h : RisX l O m) (ha : AtX O l l.length (-1)) : RisX l O (m + 1) := by
  rcases ha with ⟨_, h2⟩ | ⟨q, y, h1, _⟩
  · rw [List.take_length] at h2
    exact ⟨h.rise, h.sub, h.low, .inr h2, Nat.le_succ_of_le h.len⟩
  · omega
theorem RisX.one {l O : List It} {m q : Nat} {y : It} (h : RisX l O m) (ha : AtX O l l.length (q : Int)) (hy : l[q]? = some y) : RisX l (O ++ [y]) (m + 1) := by
  rcases ha with ⟨h1, _⟩ | ⟨q', y', h1, h2, h3, h4, h5⟩
  · omega
  · obtain rfl : q = q' := by omega
    rw [hy] at h3
    injection h3 with h3
    subst h3
    rw [List.take_length] at h5
    have hyl := List.mem_of_getElem? hy
    refine ⟨?_, fun x hx => ?_, fun x hx hn z hz => ?_, ?_, by rw [List.length_append]; exact Nat.succ_le_succ h.len⟩
    · unfold Rise
      rw [List.pairwise_append]
      refine ⟨h.rise, by simp, fun a ha b hb => ?_⟩
      obtain rfl : b = y := by simpa using hb
      exact h.low b hyl h4 a ha
    · rcases List.mem_append.1 hx with hx | hx
      · exact h.sub x hx
      · obtain rfl : x = y := by simpa using hx
        exact hyl
    · have hn1 : x ∉ O := fun e => hn (List.mem_append_left _ e)
      have hn2 : x ≠ y := fun e => hn (by rw [e]; simp)
      rcases List.mem_append.1 hz with hz | hz
      · exact h.low x hx hn1 z hz
      · obtain rfl : z = y := by simpa using hz
        rcases Classical.em (Less z x) with e | e
        · exact e
        · exact absurd (Less.total (h5 x hx hn1) e) hn2
    · rcases h.left with e | e
      · left
        have := filter_less hyl h4
        omega
      · exact absurd (e y hyl) h4
theorem RisX.done {l O : List It} (h : RisX l O l.length) : Rise O ∧ ∀ x, x ∈ O ↔ x ∈ l := by
  refine ⟨h.rise, fun x => ⟨h.sub x, fun hx => ?_⟩⟩
  rcases h.left with e | e
  · rcases Classical.em (x ∈ O) with k | k
    · exact k
    · have h1 : x ∈ l.filter fun x => decide (x ∉ O) := List.mem_filter.2 ⟨hx, by simpa using k⟩
      have h2 := List.length_pos_of_mem h1
      omega
  · exact e x hx
end Go.Proofs.X14
namespace Go.Proofs.YtjpbhbfklkipkaaDoor
open Go Go.RowKit Go.Lib
open X14 (It Less Rise lessB AtX RisX)
set_option linter.unusedVariables false
set_option linter.unusedSimpArgs false
theorem own_items {w : World} {B : Nat} {e : TypeId} {v : Value} {l : List It} (h : w.ownsRow B e 2 v l.length (icells l)) (hl : l.length ≤ 9223372036854775807) : ItemsAt w v l := by
  obtain ⟨o, c, rfl⟩ := own_shape h
  refine ⟨o, c, rfl, hl, fun h0 => ?_⟩
  obtain ⟨g, rfl, _⟩ := items_own h (i := 0) h0 rfl
  refine ⟨g, 0, rfl, fun i hi => ?_⟩
  obtain ⟨g', e1, _, h1, h2⟩ := items_own h hi rfl
  injection e1 with e1
  injection e1 with e1
  subst e1
  rw [show l.getD i (0, 0) = l[i] by rw [List.getD_eq_getElem?_getD, List.getElem?_eq_getElem hi]; rfl, Nat.zero_add]
  exact ⟨h1, h2⟩
/-- One item more. -/
theorem wpList_push39 {ops : Array Oper} {rest : List Oper} {o : Oper} {a : Act} {w : World} {Q : Exit → Act → World → Prop} (hgd : o.guard = none) (s x : Operand) (ho : o.op = .call { callee := .builtin .append, args := #[s, x], argTypes := #[32, 32] })
    (base : Nat) (v : Value) (n : Nat) (xs : List Value) (hs : a.eval s = v) (hown : w.ownsRow base 39 2 v n xs) (g : Nat) (hx : a.eval x = .slice (some ⟨g, 0, none⟩) 1 1) (p q : Int) (hb : w.heap[g]? = some (.cells #[.int .i64 p, .int .i64 q] 39 (0, 0))) (hn : n ≤ 1000000) (hbase : base ≤ w.heap.size)
    (h : ∀ v' w', w'.ownsRow base 39 2 v' (n + 1) (xs ++ [.int .i64 p, .int .i64 q]) → w.grownBy w' v.ownBlock → (v'.ownBlock = v.ownBlock ∨ v'.ownBlock = some w.heap.size) → wpList Tryd.prog ops Q rest (a.put o.dst v') w') : wpList Tryd.prog ops Q (o :: rest) a w := by
  obtain ⟨i, hi, h0, h1, h2⟩ := info_parts info39
  refine wpList_append_own_at w hgd s x 32 ho base 39 i _ 2 16 Tryd.underlying32 hi h0 h1 h2 rfl (by decide) v n xs hs hown ⟨g, 0, none⟩ 1 1 [.int .i64 p, .int .i64 q] hx rfl (fun j u hj => ?_) (fun u hu => ?_) (by unfold maxLen; omega) ?_ hbase (fun v' w' a1 a2 _ a4 => h v' w' a1 a2 a4)
  · rw [add_one_cell, Nat.zero_add, Lib.cell_of_heap hb, ← hj]
    simp
  · simp at hu; rcases hu with rfl | rfl <;> rfl
  · omega
theorem wp_append_own_at {P : Program} {w : World} {o : Oper} {a : Act} {K : Act → World → Prop} {Q : Exit → Act → World → Prop} (s x : Operand) (t : TypeId)
    (ho : o.op = .call { callee := .builtin .append, args := #[s, x], argTypes := #[t, t] })
    (base : Nat) (e : TypeId) (i : TypeInfo) (z : Value) (size bytes : Nat) (ht : P.underlying t = some (.slice e)) (hi : P.info? e = some i) (hz : i.zero = some z)
    (hsize : i.size = size) (hby : i.bytes = bytes) (hzs : z.cells.size = size) (hsz : 0 < size)
    (v : Value) (n : Nat) (xs : List Value) (hs : a.eval s = v) (hown : w.ownsRow base e size v n xs)
    (ad : Addr) (m c : Nat) (news : List Value) (hx : a.eval x = .slice (some ad) m c) (hl : news.length = m * size) (hnews : ∀ j u, news[j]? = some u → w.cell? (ad.add j) = some u) (h1 : ∀ u ∈ news, u.oneCell' = true)
    (h63 : n + m ≤ maxLen) (hbytes : (n + m) * bytes ≤ 140737488355328) (hbase : base ≤ w.heap.size)
    (h : ∀ v' w', w'.ownsRow base e size v' (n + m) (xs ++ news) → w.grownBy w' v.ownBlock → (v' = .slice none 0 0 ↔ v = .slice none 0 0 ∧ m = 0) → (v'.ownBlock = v.ownBlock ∨ v'.ownBlock = some w.heap.size) → K (a.put o.dst v') w') :
    o.wp P a w K Q := by
  obtain ⟨v', w', hr, h2, h3, h4, h5⟩ := run_append_own_at (P := P) w base t o.type e i z size bytes ht hi hz hsize hby hzs hsz v n xs hown ad m c news hl hnews h1 h63 hbytes hbase
  unfold Oper.wp execOp
  simp only [ho, resolve, invoke, builtin, Sem.run_bind, Sem.run_pure, Result.andThen_ok, List.map_toArray, List.map_cons, List.map_nil, hs, hx, hr]
  exact h v' w' h2 h3 h4 h5
theorem wp_push39 {w : World} {o : Oper} {a : Act} {K : Act → World → Prop} {Q : Exit → Act → World → Prop} (s x : Operand) (ho : o.op = .call { callee := .builtin .append, args := #[s, x], argTypes := #[32, 32] })
    (base : Nat) (v : Value) (n : Nat) (xs : List Value) (hs : a.eval s = v) (hown : w.ownsRow base 39 2 v n xs) (g : Nat) (hx : a.eval x = .slice (some ⟨g, 0, none⟩) 1 1) (p q : Int) (hb : w.heap[g]? = some (.cells #[.int .i64 p, .int .i64 q] 39 (0, 0))) (hn : n ≤ 1000000) (hbase : base ≤ w.heap.size)
    (h : ∀ v' w', w'.ownsRow base 39 2 v' (n + 1) (xs ++ [.int .i64 p, .int .i64 q]) → w.grownBy w' v.ownBlock → (v'.ownBlock = v.ownBlock ∨ v'.ownBlock = some w.heap.size) → K (a.put o.dst v') w') : o.wp Tryd.prog a w K Q := by
  obtain ⟨i, hi, h0, h1, h2⟩ := info_parts info39
  refine wp_append_own_at s x 32 ho base 39 i _ 2 16 Tryd.underlying32 hi h0 h1 h2 rfl (by decide) v n xs hs hown ⟨g, 0, none⟩ 1 1 [.int .i64 p, .int .i64 q] hx rfl (fun j u hj => ?_) (fun u hu => ?_) (by unfold maxLen; omega) ?_ hbase (fun v' w' a1 a2 _ a4 => h v' w' a1 a2 a4)
  · rw [add_one_cell, Nat.zero_add, Lib.cell_of_heap hb, ← hj]
    simp
  · simp at hu; rcases hu with rfl | rfl <;> rfl
  · omega
theorem own_push39 {w' : World} {B : Nat} {v' : Value} {O : List It} {x : It} (h : w'.ownsRow B 39 2 v' (O.length + 1) (icells O ++ [.int .i64 x.1, .int .i64 x.2])) : w'.ownsRow B 39 2 v' (O ++ [x]).length (icells (O ++ [x])) := by
  rw [icells_snoc, List.length_append]; exact h

set_option maxRecDepth 100000 in
set_option maxHeartbeats 4000000 in
theorem less_any {w : World} (x y : It) : Calls Tryd.prog 47 #[itV x, itV y] w fun e w' => e = .returned (.bool (lessB x y)) ∧ Below w.heap.size w w' := by
  obtain ⟨W1, e1⟩ : ∃ W1, w.alloc (.cells #[.int .i64 x.1, .int .i64 x.2] 39) = W1 := ⟨_, rfl⟩
  obtain ⟨W2, e2⟩ : ∃ W2, W1.alloc (.cells #[.int .i64 y.1, .int .i64 y.2] 39) = W2 := ⟨_, rfl⟩
  have hb1 : Below w.heap.size w W1 := by rw [← e1]; exact (Below.refl _ _).alloc (Nat.le_refl _) _
  have hb2 : Below W1.heap.size W1 W2 := by rw [← e2]; exact (Below.refl _ _).alloc (Nat.le_refl _) _
  have n1 : W1.heap[w.heap.size]? = some (.cells #[.int .i64 x.1, .int .i64 x.2] 39 (0, 0)) := by rw [← e1]; exact new_block _ _
  have n2 : W2.heap[W1.heap.size]? = some (.cells #[.int .i64 y.1, .int .i64 y.2] 39 (0, 0)) := by rw [← e2]; exact new_block _ _
  have c0 : W2.cell? ⟨w.heap.size, 0, none⟩ = some (.int .i64 x.1) := cell_below hb2 (Lib.cell_of_heap n1 0)
  have c1 : W2.cell? ⟨w.heap.size, 1, none⟩ = some (.int .i64 x.2) := cell_below hb2 (Lib.cell_of_heap n1 1)
  have c2 : W2.cell? ⟨W1.heap.size, 0, none⟩ = some (.int .i64 y.1) := Lib.cell_of_heap n2 0
  have c3 : W2.cell? ⟨W1.heap.size, 1, none⟩ = some (.int .i64 y.2) := Lib.cell_of_heap n2 1
  have HB := hid (hb1.trans (hb2.mono hb1.size))
  obtain ⟨r, hr⟩ : ∃ r, lessB x y = r := ⟨_, rfl⟩
  have HR := hid hr
  rw [hr]
  unfold itV
  obtain ⟨a, b⟩ := x
  obtain ⟨c, d⟩ := y
  unfold lessB at HR
  dsimp only at *
  clear hb1 hb2 n1 n2 hr
  by_cases k1 : a < c
  · have d1 : decide (a < c) = true := decide_eq_true k1
    obtain rfl : true = r := by rw [← HR.out, d1]; rfl
    go_enter Tryd.func47, Tryd.ntmps47
    go_wp2_with fail
    go_ret
    exact ⟨rfl, HB.out⟩
  · have d1 : decide (a < c) = false := decide_eq_false k1
    by_cases k2 : a = c
    · by_cases k3 : b < d
      · have d3 : decide (b < d) = true := decide_eq_true k3
        obtain rfl : true = r := by rw [← HR.out, d1, decide_eq_true k2, d3]; rfl
        subst k2
        go_enter Tryd.func47, Tryd.ntmps47
        go_wp2_with fail
        go_ret
        exact ⟨rfl, HB.out⟩
      · have d3 : decide (b < d) = false := decide_eq_false k3
        obtain rfl : false = r := by rw [← HR.out, d1, decide_eq_true k2, d3]; rfl
        subst k2
        go_enter Tryd.func47, Tryd.ntmps47
        go_wp2_with fail
        go_ret
        exact ⟨rfl, HB.out⟩
    · have d2 : (a == c) = false := by rw [beq_eq_false_iff_ne]; exact k2
      obtain rfl : false = r := by rw [← HR.out, d1, decide_eq_false k2]; rfl
      go_enter Tryd.func47, Tryd.ntmps47
      go_wp2_with fail
      go_ret
      exact ⟨rfl, HB.out⟩
end Go.Proofs.YtjpbhbfklkipkaaDoor
