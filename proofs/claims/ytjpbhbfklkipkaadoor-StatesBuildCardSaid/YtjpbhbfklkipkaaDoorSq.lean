/- Items by the symbols behind their dots: a map of rows. -/
import Derived.Test.YtjpbhbfklkipkaaDoorSp
namespace Go.Proofs.YtjpbhbfklkipkaaDoor
open Go Go.RowKit Go.Lib
open X14 (It thereX behX rightX sortX stepX)
open Go.Maps (Keyed)
set_option linter.unusedVariables false
set_option linter.unusedSimpArgs false
theorem keyed29 : Keyed Tryd.prog 29 := Maps.int_keyed Tryd.underlying29
theorem key29 {s : Int} (h0 : -9223372036854775808 ≤ s) (h1 : s ≤ 9223372036854775807) : keyOf Tryd.prog 29 (.int .i64 s) = some (.int .i64 s) := Maps.keyOf_int_mk Tryd.underlying29 (wf_i64 h0 h1)
theorem zero28 (w : World) : (zeroValue 28).run Tryd.prog w = .ok (.slice none 0 0) w := by kernel_rfl
theorem beh_range {G : GD} {x : It} {s : Int} (hv : validB G = true) (hb : behX G x = some s) : -61 ≤ s ∧ s ≤ 60 := by
  by_cases hs : s < 0
  · have := beh_sort hv hb hs
    have := (valid_parts hv).2.1
    omega
  · have ht := X14.there_iff.1 (X14.beh_there hb)
    unfold X14.behX at hb
    rw [if_pos (X14.beh_there (by unfold X14.behX; exact hb))] at hb
    obtain ⟨hlt, he⟩ := List.getElem?_eq_some_iff.1 hb
    obtain ⟨hnt, _, _, hp, _, hst, _⟩ := valid_parts hv
    have hmem : s ∈ rightX G x.1 := by rw [← he]; exact List.getElem_mem hlt
    by_cases h1 : x.1 = -1
    · have e : rightX G x.1 = [-1 - G.start] := by unfold X14.rightX; rw [if_pos h1]
      rw [e] at hmem
      have : s = -1 - G.start := by simpa using hmem
      omega
    · have e : rightX G x.1 = (G.prods.getD x.1.toNat default).rs := by unfold X14.rightX; rw [if_neg h1]
      rw [e] at hmem
      have hlp : x.1.toNat < G.prods.length := by omega
      have hpm : G.prods.getD x.1.toNat default ∈ G.prods := by
        rw [List.getD_eq_getElem?_getD, List.getElem?_eq_getElem hlp]
        exact List.getElem_mem hlp
      have hq := List.all_eq_true.1 hp _ hpm
      unfold prodB at hq
      simp only [Bool.and_eq_true, decide_eq_true_eq] at hq
      have hsy := List.all_eq_true.1 hq.2 s hmem
      unfold symB at hsy
      have := of_decide_eq_true hsy
      omega
/-- An entry: a symbol, the block of its row, that row's room. -/
abbrev Ent := Int × Nat × Nat
def rowV (p : Ent) (l : List It) : Value := .slice (some ⟨p.2.1, 0, none⟩) l.length p.2.2
def entV (f : Int → List It) (p : Ent) : Value × Value := (.int .i64 p.1, rowV p (f p.1))
/-- A map of rows: by each symbol its items, where there are some. -/
structure StI (w0 w : World) (f : Int → List It) (b : Nat) (M : List Ent) : Prop where
  bel : Below w0.heap.size w0 w
  map : MapIs Tryd.prog 29 w b (M.map (entV f))
  own : ∀ p ∈ M, w.ownsRow w0.heap.size 37 2 (rowV p (f p.1)) (f p.1).length (icells (f p.1))
  ne : ∀ p ∈ M, f p.1 ≠ []
  keys : (M.map (·.1)).Nodup
  gs : (M.map (·.2.1)).Nodup
  all : ∀ s, s ∉ M.map (·.1) → f s = []
  ge : w0.heap.size ≤ b
theorem StI.below {w0 w w' : World} {f : Int → List It} {b : Nat} {M : List Ent} (h : StI w0 w f b M) (hb : Below w.heap.size w w') : StI w0 w' f b M :=
  ⟨h.bel.trans (hb.mono h.bel.size), h.map.below hb, fun p hp => own_below (h.own p hp) hb, h.ne, h.keys, h.gs, h.all, h.ge⟩
theorem StI.same {w0 w : World} {f f' : Int → List It} {b : Nat} {M : List Ent} (h : StI w0 w f b M) (he : ∀ s, f' s = f s) : StI w0 w f' b M := by
  have : f' = f := funext he
  rw [this]; exact h
theorem StI.start (w0 w : World) (hb : Below w0.heap.size w0 w) : StI w0 (w.alloc (.map #[] 0)) (fun _ => []) w.heap.size [] :=
  ⟨hb.trans (((Below.refl _ _).alloc (Nat.le_refl _) _).mono hb.size), MapIs.made w, by simp, by simp, List.nodup_nil, List.nodup_nil, fun _ _ => rfl, hb.size⟩
theorem own_block_cells {w : World} {B n g c sz : Nat} {e : TypeId} {xs : List Value} (h : w.ownsRow B e sz (.slice (some ⟨g, 0, none⟩) n c) n xs) : ∃ cur, w.heap[g]? = some (.cells cur e (0, 0)) := by
  rcases h.2 with ⟨h1, _⟩ | ⟨g', cap, cur, h1, hB, hg, _⟩
  · cases h1
  · injection h1 with h1
    injection h1 with h1
    injection h1 with h1
    subst h1
    exact ⟨cur, hg⟩
theorem map_not_cells {w : World} {k : TypeId} {b g : Nat} {L : List (Value × Value)} {cur : Array Value} {e : TypeId} (h : MapIs Tryd.prog k w b L) (hg : w.heap[g]? = some (.cells cur e (0, 0))) : b ≠ g := by
  intro e1
  subst e1
  obtain ⟨es, clock, hb, _⟩ := h.ex
  rw [hb] at hg
  cases hg
theorem own_shape1 {w : World} {B n sz : Nat} {e : TypeId} {v : Value} {xs : List Value} (h : w.ownsRow B e sz v (n + 1) xs) : ∃ g c, v = .slice (some ⟨g, 0, none⟩) (n + 1) c ∧ B ≤ g ∧ g < w.heap.size := by
  rcases h.2 with ⟨h1, h0⟩ | ⟨g', cap, cur, h1, hB, hg, _⟩
  · omega
  · exact ⟨g', cap, h1, hB, (Array.getElem?_eq_some_iff.1 hg).1⟩
/-- An entry's row has one item more. -/
theorem StI.more {w0 w w2 w3 : World} {f f' : Int → List It} {b : Nat} {M : List Ent} (h : StI w0 w f b M) {j : Nat} {p : Ent} {y : It} {v' : Value} (hj : M[j]? = some p) (hf : ∀ s, f' s = if s = p.1 then f p.1 ++ [y] else f s)
    (hown : w2.ownsRow w0.heap.size 37 2 v' ((f p.1).length + 1) (icells (f p.1) ++ [.int .i64 y.1, .int .i64 y.2])) (hg : w.grownBy w2 (some p.2.1)) (hat : v'.ownBlock = some p.2.1 ∨ v'.ownBlock = some w.heap.size)
    (hm : MapIs Tryd.prog 29 w3 b ((M.map (entV f)).set j (.int .i64 p.1, v'))) (hg3 : w2.grownBy w3 (some b)) : ∃ M', StI w0 w3 f' b M' := by
  obtain ⟨g', c', rfl, hB', hlt'⟩ := own_shape1 hown
  have hpM := List.mem_of_getElem? hj
  have hjl := (List.getElem?_eq_some_iff.1 hj).1
  have hgg : g' = p.2.1 ∨ g' = w.heap.size := hat.imp (fun e => Option.some.inj e) (fun e => Option.some.inj e)
  have hfp : f' p.1 = f p.1 ++ [y] := by rw [hf, if_pos rfl]
  have hfo : ∀ s, s ≠ p.1 → f' s = f s := fun s hs => by rw [hf, if_neg hs]
  have hkey : ∀ i q, M[i]? = some q → i ≠ j → q.1 ≠ p.1 := fun i q hi hij e => by
    refine hij ((List.getElem?_inj (by rw [List.length_map]; exact (List.getElem?_eq_some_iff.1 hi).1) h.keys).1 ?_)
    rw [List.getElem?_map, List.getElem?_map, hi, hj]
    simp [e]
  have hgne : ∀ i q, M[i]? = some q → i ≠ j → q.2.1 ≠ p.2.1 := fun i q hi hij e => by
    refine hij ((List.getElem?_inj (by rw [List.length_map]; exact (List.getElem?_eq_some_iff.1 hi).1) h.gs).1 ?_)
    rw [List.getElem?_map, List.getElem?_map, hi, hj]
    simp [e]
  have hlt : ∀ q ∈ M, w0.heap.size ≤ q.2.1 ∧ q.2.1 < w.heap.size := fun q hq => owns_lt (h.own q hq) q.2.1 rfl
  have hbel2 : Below w0.heap.size w0 w2 := h.bel.grown hg h.bel.size (fun k e => by injection e with e; subst e; exact (hlt p hpM).1)
  have hbel3 : Below w0.heap.size w0 w3 := hbel2.grown hg3 hbel2.size (fun k e => by injection e with e; subst e; exact h.ge)
  have hget : ∀ i q, (M.set j (p.1, g', c'))[i]? = some q → (i = j ∧ q = (p.1, g', c')) ∨ (i ≠ j ∧ M[i]? = some q) := fun i q hi => by
    rw [List.getElem?_set] at hi
    split at hi
    · rename_i e
      try rw [if_pos hjl] at hi
      injection hi with hi
      exact .inl ⟨e.symm, hi.symm⟩
    · rename_i e
      exact .inr ⟨fun e' => e e'.symm, hi⟩
  have hownb : ∀ q ∈ M, q.2.1 ≠ p.2.1 → w3.heap[q.2.1]? = w.heap[q.2.1]? := fun q hq hne => by
    have h1 := (hlt q hq).2
    obtain ⟨cur, hc⟩ := own_block_cells (h.own q hq)
    have h2 : b ≠ q.2.1 := map_not_cells h.map hc
    exact (hg3.block _ (Nat.lt_of_lt_of_le h1 hg.size) (fun e => h2 (Option.some.inj e).symm)).trans (hg.block _ h1 (fun e => hne (Option.some.inj e)))
  refine ⟨M.set j (p.1, g', c'), hbel3, ?_, fun q hq => ?_, fun q hq => ?_, ?_, ?_, fun s hs => ?_, h.ge⟩
  · have e : (M.set j (p.1, g', c')).map (entV f') = (M.map (entV f)).set j (.int .i64 p.1, .slice (some ⟨g', 0, none⟩) ((f p.1).length + 1) c') := by
      refine List.ext_getElem? fun i => ?_
      rw [List.getElem?_map, List.getElem?_set, List.getElem?_set, List.length_map]
      split
      · try rw [if_pos hjl]
        simp only [Option.map_some, entV, rowV, hfp, List.length_append, List.length_cons, List.length_nil]
      · rename_i hij
        rw [List.getElem?_map]
        cases hi : M[i]? with
        | none => rfl
        | some q =>
          have := hkey i q hi (fun e => hij e.symm)
          simp only [Option.map_some, entV, rowV, hfo q.1 this]
    rw [e]
    exact hm
  · obtain ⟨i, hi⟩ := List.mem_iff_getElem?.1 hq
    rcases hget i q hi with ⟨rfl, rfl⟩ | ⟨hij, hq2⟩
    · show w3.ownsRow _ 37 2 (.slice (some ⟨g', 0, none⟩) (f' p.1).length c') (f' p.1).length (icells (f' p.1))
      rw [hfp, List.length_append, icells_snoc]
      refine owns_kept hown fun q hq => ?_
      injection hq with hq
      subst hq
      obtain ⟨cur, hc⟩ := own_block_cells hown
      refine hg3.block _ hlt' fun e => ?_
      have e' : g' = b := Option.some.inj e
      obtain ⟨es, clock, hbm, _⟩ := h.map.ex
      have hbl := h.map.lt
      have hbp : b ≠ p.2.1 := by
        obtain ⟨cur', hc'⟩ := own_block_cells (h.own p hpM)
        exact map_not_cells h.map hc'
      have h5 := (hg.block b hbl (fun e => hbp (Option.some.inj e))).trans hbm
      rw [← e', hc] at h5
      cases h5
    · rw [hfo q.1 (hkey i q hq2 hij)]
      exact owns_kept (h.own q (List.mem_of_getElem? hq2)) fun k hk => by
        injection hk with hk
        subst hk
        exact hownb q (List.mem_of_getElem? hq2) (hgne i q hq2 hij)
  · obtain ⟨i, hi⟩ := List.mem_iff_getElem?.1 hq
    rcases hget i q hi with ⟨rfl, rfl⟩ | ⟨hij, hq2⟩
    · show f' p.1 ≠ []
      rw [hfp]
      simp
    · rw [hfo q.1 (hkey i q hq2 hij)]
      exact h.ne q (List.mem_of_getElem? hq2)
  · have e : (M.set j (p.1, g', c')).map (·.1) = M.map (·.1) := by
      refine List.ext_getElem? fun i => ?_
      rw [List.getElem?_map, List.getElem?_set, List.getElem?_map]
      split
      · rename_i e
        subst e
        try rw [if_pos hjl]
        rw [hj]
        rfl
      · rfl
    rw [e]
    exact h.keys
  · unfold List.Nodup
    rw [List.pairwise_iff_getElem]
    intro i k hi0 hk0 hik e
    rw [List.getElem_map, List.getElem_map] at e
    rw [List.length_map] at hi0 hk0
    obtain ⟨q, hq'⟩ : ∃ q, (M.set j (p.1, g', c'))[i] = q := ⟨_, rfl⟩
    obtain ⟨r, hr'⟩ : ∃ r, (M.set j (p.1, g', c'))[k] = r := ⟨_, rfl⟩
    rw [hq', hr'] at e
    have hq : (M.set j (p.1, g', c'))[i]? = some q := by rw [List.getElem?_eq_getElem hi0, hq']
    have hr : (M.set j (p.1, g', c'))[k]? = some r := by rw [List.getElem?_eq_getElem hk0, hr']
    have new : ∀ i q, M[i]? = some q → i ≠ j → q.2.1 ≠ g' := fun i q hi hij e => by
      rcases hgg with e1 | e1
      · exact hgne i q hi hij (e.trans e1)
      · have := (hlt q (List.mem_of_getElem? hi)).2
        omega
    rcases hget i q hq with ⟨rfl, rfl⟩ | ⟨hij, hq2⟩
    · rcases hget k r hr with ⟨h1, _⟩ | ⟨hkj, hr2⟩
      · omega
      · exact new k r hr2 hkj e.symm
    · rcases hget k r hr with ⟨rfl, rfl⟩ | ⟨hkj, hr2⟩
      · exact new i q hq2 hij e
      · have := (List.getElem?_inj (i := i) (j := k) (by rw [List.length_map]; exact (List.getElem?_eq_some_iff.1 hq2).1) h.gs).1 (by rw [List.getElem?_map, List.getElem?_map, hq2, hr2]; simp [e])
        omega
  · have hsp : s ≠ p.1 := fun e => hs (by
      rw [List.mem_map]
      exact ⟨(p.1, g', c'), List.mem_iff_getElem?.2 ⟨j, by rw [List.getElem?_set_self hjl]⟩, e.symm⟩)
    rw [hfo s hsp]
    refine h.all s fun hm => hs ?_
    obtain ⟨q, hq, rfl⟩ := List.mem_map.1 hm
    obtain ⟨i, hi⟩ := List.mem_iff_getElem?.1 hq
    rw [List.mem_map]
    refine ⟨q, List.mem_iff_getElem?.2 ⟨i, ?_⟩, rfl⟩
    rw [List.getElem?_set, if_neg (fun e => hsp (by rw [← e, hj] at hi; injection hi with hi; rw [hi]))]
    exact hi
/-- A symbol's first item. -/
theorem StI.new {w0 w w2 w3 : World} {f f' : Int → List It} {b : Nat} {M : List Ent} (h : StI w0 w f b M) {s : Int} {y : It} {v' : Value} (hs : s ∉ M.map (·.1)) (hf : ∀ t, f' t = if t = s then [y] else f t)
    (hown : w2.ownsRow w0.heap.size 37 2 v' (0 + 1) [.int .i64 y.1, .int .i64 y.2]) (hg : w.grownBy w2 none) (hat : v'.ownBlock = none ∨ v'.ownBlock = some w.heap.size)
    (hm : MapIs Tryd.prog 29 w3 b (M.map (entV f) ++ [(.int .i64 s, v')])) (hg3 : w2.grownBy w3 (some b)) : ∃ M', StI w0 w3 f' b M' := by
  obtain ⟨g', c', rfl, hB', hlt'⟩ := own_shape1 hown
  have hgg : g' = w.heap.size := by
    rcases hat with e | e
    · cases e
    · exact Option.some.inj e
  have hlt : ∀ q ∈ M, w0.heap.size ≤ q.2.1 ∧ q.2.1 < w.heap.size := fun q hq => owns_lt (h.own q hq) q.2.1 rfl
  have hbel2 : Below w0.heap.size w0 w2 := h.bel.grown hg h.bel.size (fun k e => by cases e)
  have hbel3 : Below w0.heap.size w0 w3 := hbel2.grown hg3 hbel2.size (fun k e => by injection e with e; subst e; exact h.ge)
  have hfs : f' s = [y] := by rw [hf, if_pos rfl]
  have hfo : ∀ q ∈ M, f' q.1 = f q.1 := fun q hq => by
    rw [hf, if_neg]
    exact fun e => hs (List.mem_map.2 ⟨q, hq, e⟩)
  have hbl := h.map.lt
  refine ⟨M ++ [(s, g', c')], hbel3, ?_, fun q hq => ?_, fun q hq => ?_, ?_, ?_, fun t ht => ?_, h.ge⟩
  · have e : (M ++ [(s, g', c')]).map (entV f') = M.map (entV f) ++ [(.int .i64 s, .slice (some ⟨g', 0, none⟩) (0 + 1) c')] := by
      rw [List.map_append]
      congr 1
      · exact List.map_congr_left fun q hq => by simp only [entV, rowV, hfo q hq]
      · simp [entV, rowV, hfs]
    rw [e]
    exact hm
  · rcases List.mem_append.1 hq with hq | hq
    · rw [hfo q hq]
      refine owns_kept (h.own q hq) fun k hk => ?_
      injection hk with hk
      subst hk
      have h1 := (hlt q hq).2
      obtain ⟨cur, hc⟩ := own_block_cells (h.own q hq)
      have h2 : b ≠ q.2.1 := map_not_cells h.map hc
      exact (hg3.block _ (Nat.lt_of_lt_of_le h1 hg.size) (fun e => h2 (Option.some.inj e).symm)).trans (hg.block _ h1 (fun e => by cases e))
    · obtain rfl : q = (s, g', c') := by simpa using hq
      show w3.ownsRow _ 37 2 (.slice (some ⟨g', 0, none⟩) (f' s).length c') (f' s).length (icells (f' s))
      rw [hfs]
      refine owns_kept hown fun q hq => ?_
      injection hq with hq
      subst hq
      exact hg3.block _ hlt' fun e => by
        have e' : g' = b := Option.some.inj e
        omega
  · rcases List.mem_append.1 hq with hq | hq
    · rw [hfo q hq]; exact h.ne q hq
    · obtain rfl : q = (s, g', c') := by simpa using hq
      show f' s ≠ []
      rw [hfs]
      simp
  · rw [List.map_append, List.nodup_append]
    refine ⟨h.keys, by simp, fun a ha t ht => ?_⟩
    obtain rfl : t = s := by simpa using ht
    exact fun e => hs (e ▸ ha)
  · rw [List.map_append, List.nodup_append]
    refine ⟨h.gs, by simp, fun a ha t ht => ?_⟩
    obtain rfl : t = g' := by simpa using ht
    obtain ⟨q, hq, rfl⟩ := List.mem_map.1 ha
    have := (hlt q hq).2
    omega
  · rw [List.map_append, List.mem_append] at ht
    have h1 : t ∉ M.map (·.1) := fun e => ht (.inl e)
    have h2 : t ≠ s := fun e => ht (.inr (by simp [e]))
    rw [hf, if_neg h2]
    exact h.all t h1
theorem StI.mem {w0 w : World} {f : Int → List It} {b : Nat} {M : List Ent} (h : StI w0 w f b M) {p : Ent} (hp : p ∈ M) : (Value.int .i64 p.1, rowV p (f p.1)) ∈ M.map (entV f) := List.mem_map.2 ⟨p, hp, rfl⟩
theorem StI.none_ {w0 w : World} {f : Int → List It} {b : Nat} {M : List Ent} (h : StI w0 w f b M) {s : Int} (hs : s ∉ M.map (·.1)) : ∀ p ∈ M.map (entV f), p.1 ≠ .int .i64 s := fun p hp e => by
  obtain ⟨q, hq, rfl⟩ := List.mem_map.1 hp
  have e' : q.1 = s := by injection e
  exact hs (List.mem_map.2 ⟨q, hq, e'⟩)
end Go.Proofs.YtjpbhbfklkipkaaDoor
