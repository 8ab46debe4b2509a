/- Items by the symbols behind their dots: a map of rows. -/
import Derived.Test.YticmnfmijdgmbaaGreatDoorSp
namespace Go.Proofs.YticmnfmijdgmbaaGreatDoor
open Go Go.RowKit Go.Lib
open X14 (It thereX behX rightX sortX stepX)
open Go.Maps (Keyed)
set_option linter.unusedVariables false
set_option linter.unusedSimpArgs false
theorem keyed29 : Keyed Tryz.prog 61 := Maps.int_keyed Tryz.underlying61
theorem key29 {s : Int} (h0 : -9223372036854775808 ≤ s) (h1 : s ≤ 9223372036854775807) : keyOf Tryz.prog 61 (.int .i64 s) = some (.int .i64 s) := Maps.keyOf_int_mk Tryz.underlying61 (wf_i64 h0 h1)
theorem zero28 (w : World) : (zeroValue 45).run Tryz.prog w = .ok (.slice none 0 0) w := by kernel_rfl
theorem beh_range {G : GD} {x : It} {s : Int} (hv : validB G = true) (hb : behX G x = some s) : -61 ≤ s ∧ s ≤ 60 := by
 by_cases hs : s < 0
 ·have := beh_sort hv hb hs
  have := (valid_parts hv).2.1
  omega
 ·have ht := X14.there_iff.1 (X14.beh_there hb)
  unfold X14.behX at hb
  rw [if_pos (X14.beh_there (by unfold X14.behX; exact hb))] at hb
  obtain ⟨hlt, he⟩ := List.getElem?_eq_some_iff.1 hb
  obtain ⟨hnt, _, _, hp, _, hst, _⟩ := valid_parts hv
  have hmem : s ∈ rightX G x.1 := by rw [← he]; exact List.getElem_mem hlt
  by_cases h1 : x.1 = -1
  ·have e : rightX G x.1 = [-1 - G.start] := by unfold X14.rightX; rw [if_pos h1]
   rw [e] at hmem
   have : s = -1 - G.start := by simpa using hmem
   omega
  ·have e : rightX G x.1 = (G.prods.getD x.1.toNat default).rs := by unfold X14.rightX; rw [if_neg h1]
   rw [e] at hmem
   have hlp : x.1.toNat < G.prods.length := by omega
   have hpm : G.prods.getD x.1.toNat default ∈ G.prods := by
    rw [List.getD_eq_getElem?_getD, List.getElem?_eq_getElem hlp]
    exact List.getElem_mem hlp
   have hq := List.all_eq_true.1 hp _ hpm
   unfold prodB at hq
   simp only [Bool.and_eq_true, decide_eq_true_eq] at hq
   have hsy := List.all_eq_true.1 hq.2 s hmem
   unfold symB at hsy
   have := of_decide_eq_true hsy
   omega
abbrev Ent := Int × Nat × Nat
def rowV (p : Ent) (l : List It) : Value := .slice (some ⟨p.2.1, 0, none⟩) l.length p.2.2
def entV (f : Int → List It) (p : Ent) : Value × Value := (.int .i64 p.1, rowV p (f p.1))
structure StI (w0 w : World) (f : Int → List It) (b : Nat) (M : List Ent) : Prop where
 bel : Below w0.heap.size w0 w
 map : MapIs Tryz.prog 61 w b (M.map (entV f))
 own : ∀ p ∈ M, w.ownsRow w0.heap.size 60 2 (rowV p (f p.1)) (f p.1).length (icells (f p.1))
 ne : ∀ p ∈ M, f p.1 ≠ []
 keys : (M.map (·.1)).Nodup
 gs : (M.map (·.2.1)).Nodup
 all : ∀ s, s ∉ M.map (·.1) → f s = []
 ge : w0.heap.size ≤ b
theorem StI.below {w0 w w' : World} {f : Int → List It} {b : Nat} {M : List Ent} (h : StI w0 w f b M) (hb : Below w.heap.size w w') : StI w0 w' f b M :=
 ⟨h.bel.trans (hb.mono h.bel.size), h.map.below hb, fun p hp => own_below (h.own p hp) hb, h.ne, h.keys, h.gs, h.all, h.ge⟩
theorem StI.same {w0 w : World} {f f' : Int → List It} {b : Nat} {M : List Ent} (h : StI w0 w f b M) (he : ∀ s, f' s = f s) : StI w0 w f' b M := by
 have : f' = f := funext he
 rw [this]; exact h
theorem StI.start (w0 w : World) (hb : Below w0.heap.size w0 w) : StI w0 (w.alloc (.map #[] 0)) (fun _ => []) w.heap.size [] :=
 ⟨hb.trans (((Below.refl _ _).alloc (Nat.le_refl _) _).mono hb.size), MapIs.made w, by simp, by simp, List.nodup_nil, List.nodup_nil, fun _ _ => rfl, hb.size⟩
theorem own_block_cells {w : World} {B n g c sz : Nat} {e : TypeId} {xs : List Value} (h : w.ownsRow B e sz (.slice (some ⟨g, 0, none⟩) n c) n xs) : ∃ cur, w.heap[g]? = some (.cells cur e (0, 0)) := by
 rcases h.2 with ⟨h1, _⟩ | ⟨g', cap, cur, h1, hB, hg, _⟩
 ·cases h1
 ·injection h1 with h1
  injection h1 with h1
  injection h1 with h1
  subst h1
  exact ⟨cur, hg⟩
theorem map_not_cells {w : World} {k : TypeId} {b g : Nat} {L : List (Value × Value)} {cur : Array Value} {e : TypeId} (h : MapIs Tryz.prog k w b L) (hg : w.heap[g]? = some (.cells cur e (0, 0))) : b ≠ g := by
 intro e1
 subst e1
 obtain ⟨es, clock, hb, _⟩ := h.ex
 rw [hb] at hg
 cases hg
theorem own_shape1 {w : World} {B n sz : Nat} {e : TypeId} {v : Value} {xs : List Value} (h : w.ownsRow B e sz v (n + 1) xs) : ∃ g c, v = .slice (some ⟨g, 0, none⟩) (n + 1) c ∧ B ≤ g ∧ g < w.heap.size := by
 rcases h.2 with ⟨h1, h0⟩ | ⟨g', cap, cur, h1, hB, hg, _⟩
 ·omega
 ·exact ⟨g', cap, h1, hB, (Array.getElem?_eq_some_iff.1 hg).1⟩
theorem StI.more {w0 w w2 w3 : World} {f f' : Int → List It} {b : Nat} {M : List Ent} (h : StI w0 w f b M) {j : Nat} {p : Ent} {y : It} {v' : Value} (hj : M[j]? = some p) (hf : ∀ s, f' s = if s = p.1 then f p.1 ++ [y] else f s)
  (hown : w2.ownsRow w0.heap.size 60 2 v' ((f p.1).length + 1) (icells (f p.1) ++ [.int .i64 y.1, .int .i64 y.2])) (hg : w.grownBy w2 (some p.2.1)) (hat : v'.ownBlock = some p.2.1 ∨ v'.ownBlock = some w.heap.size)
  (hm : MapIs Tryz.prog 61 w3 b ((M.map (entV f)).set j (.int .i64 p.1, v'))) (hg3 : w2.grownBy w3 (some b)) : ∃ M', StI w0 w3 f' b M' := by
 obtain ⟨g', c', rfl, hB', hlt'⟩ := own_shape1 hown
 have hpM := List.mem_of_getElem? hj
 have hjl := (List.getElem?_eq_some_iff.1 hj).1
 have hgg : g' = p.2.1 ∨ g' = w.heap.size := hat.imp (fun e => Option.some.inj e) (fun e => Option.some.inj e)
 have hfp : f' p.1 = f p.1 ++ [y] := by rw [hf, if_pos rfl]
 have hfo : ∀ s, s ≠ p.1 → f' s = f s := fun s hs => by rw [hf, if_neg hs]
 have hkey : ∀ i q, M[i]? = some q → i ≠ j → q.1 ≠ p.1 := fun i q hi hij e => by
  refine hij ((List.getElem?_inj (by rw [List.length_map]; exact (List.getElem?_eq_some_iff.1 hi).1) h.keys).1 ?_)
  rw [List.getElem?_map, List.getElem?_map, hi, hj]
  simp [e]
 have hgne : ∀ i q, M[i]? = some q → i ≠ j → q.2.1 ≠ p.2.1 := fun i q hi hij e => by
  refine hij ((List.getElem?_inj (by rw [List.length_map]; exact (List.getElem?_eq_some_iff.1 hi).1) h.gs).1 ?_)
  rw [List.getElem?_map, List.getElem?_map, hi, hj]
  simp [e]
 have hlt : ∀ q ∈ M, w0.heap.size ≤ q.2.1 ∧ q.2.1 < w.heap.size := fun q hq => owns_lt (h.own q hq) q.2.1 rfl
 have hbel2 : Below w0.heap.size w0 w2 := h.bel.grown hg h.bel.size (fun k e => by injection e with e; subst e; exact (hlt p hpM).1)
 have hbel3 : Below w0.heap.size w0 w3 := hbel2.grown hg3 hbel2.size (fun k e => by injection e with e; subst e; exact h.ge)
 have hget : ∀ i q, (M.set j (p.1, g', c'))[i]? = some q → (i = j ∧ q = (p.1, g', c')) ∨ (i ≠ j ∧ M[i]? = some q) := fun i q hi => by
  rw [List.getElem?_set] at hi
  split at hi
  ·rename_i e
   try rw [if_pos hjl] at hi
   injection hi with hi
   exact .inl ⟨e.symm, hi.symm⟩
  ·rename_i e
   exact .inr ⟨fun e' => e e'.symm, hi⟩
 have hownb : ∀ q ∈ M, q.2.1 ≠ p.2.1 → w3.heap[q.2.1]? = w.heap[q.2.1]? := fun q hq hne => by
  have h1 := (hlt q hq).2
  obtain ⟨cur, hc⟩ := own_block_cells (h.own q hq)
  have h2 : b ≠ q.2.1 := map_not_cells h.map hc
  exact (hg3.block _ (Nat.lt_of_lt_of_le h1 hg.size) (fun e => h2 (Option.some.inj e).symm)).trans (hg.block _ h1 (fun e => hne (Option.some.inj e)))
 refine ⟨M.set j (p.1, g', c'), hbel3, ?_, fun q hq => ?_, fun q hq => ?_, ?_, ?_, fun s hs => ?_, h.ge⟩
 ·have e : (M.set j (p.1, g', c')).map (entV f') = (M.map (entV f)).set j (.int .i64 p.1, .slice (some ⟨g', 0, none⟩) ((f p.1).length + 1) c') := by
   refine List.ext_getElem? fun i => ?_
   rw [List.getElem?_map, List.getElem?_set, List.getElem?_set, List.length_map]
   split
   ·try rw [if_pos hjl]
    simp only [Option.map_some, entV, rowV, hfp, List.length_append, List.length_cons, List.length_nil]
   ·rename_i hij
    rw [List.getElem?_map]
    cases hi : M[i]? with
    | none => rfl
    | some q =>
     have := hkey i q hi (fun e => hij e.symm)
     simp only [Option.map_some, entV, rowV, hfo q.1 this]
  rw [e]
  exact hm
 ·obtain ⟨i, hi⟩ := List.mem_iff_getElem?.1 hq
  rcases hget i q hi with ⟨rfl, rfl⟩ | ⟨hij, hq2⟩
  ·show w3.ownsRow _ 60 2 (.slice (some ⟨g', 0, none⟩) (f' p.1).length c') (f' p.1).length (icells (f' p.1))
   rw [hfp, List.length_append, icells_snoc]
   refine owns_kept hown fun q hq => ?_
   injection hq with hq
   subst hq
   obtain ⟨cur, hc⟩ := own_block_cells hown
   refine hg3.block _ hlt' fun e => ?_
   have e' : g' = b := Option.some.inj e
   obtain ⟨es, clock, hbm, _⟩ := h.map.ex
   have hbl := h.map.lt
   have hbp : b ≠ p.2.1 := by
    obtain ⟨cur', hc'⟩ := own_block_cells (h.own p hpM)
    exact map_not_cells h.map hc'
   have h5 := (hg.block b hbl (fun e => hbp (Option.some.inj e))).trans hbm
   rw [← e', hc] at h5
   cases h5
  ·rw [hfo q.1 (hkey i q hq2 hij)]
   exact owns_kept (h.own q (List.mem_of_getElem? hq2)) fun k hk => by
    injection hk with hk
    subst hk
    exact hownb q (List.mem_of_getElem? hq2) (hgne i q hq2 hij)
 ·obtain ⟨i, hi⟩ := List.mem_iff_getElem?.1 hq
  rcases hget i q hi with ⟨rfl, rfl⟩ | ⟨hij, hq2⟩
  ·show f' p.1 ≠ []
   rw [hfp]
   simp
  ·rw [hfo q.1 (hkey i q hq2 hij)]
   exact h.ne q (List.mem_of_getElem? hq2)
 ·have e : (M.set j (p.1, g', c')).map (·.1) = M.map (·.1) := by
   refine List.ext_getElem? fun i => ?_
   rw [List.getElem?_map, List.getElem?_set, List.getElem?_map]
   split
   ·rename_i e
    subst e
    try rw [if_pos hjl]
    rw [hj]
    rfl
   ·rfl
  rw [e]
  exact h.keys
 ·unfold List.Nodup
  rw [List.pairwise_iff_getElem]
  intro i k hi0 hk0 hik e
  rw [List.getElem_map, List.getElem_map] at e
  rw [List.length_map] at hi0 hk0
  obtain ⟨q, hq'⟩ : ∃ q, (M.set j (p.1, g', c'))[i] = q := ⟨_, rfl⟩
  obtain ⟨r, hr'⟩ : ∃ r, (M.set j (p.1, g', c'))[k] = r := ⟨_, rfl⟩
  rw [hq', hr'] at e
  have hq : (M.set j (p.1, g', c'))[i]? = some q := by rw [List.getElem?_eq_getElem hi0, hq']
  have hr : (M.set j (p.1, g', c'))[k]? = some r := by rw [List.getElem?_eq_getElem hk0, hr']
  have new : ∀ i q, M[i]? = some q → i ≠ j → q.2.1 ≠ g' := fun i q hi hij e => by
   rcases hgg with e1 | e1
   ·exact hgne i q hi hij (e.trans e1)
   ·have := (hlt q (List.mem_of_getElem? hi)).2
    omega
  rcases hget i q hq with ⟨rfl, rfl⟩ | ⟨hij, hq2⟩
  ·rcases hget k r hr with ⟨h1, _⟩ | ⟨hkj, hr2⟩
   ·omega
   ·exact new k r hr2 hkj e.symm
  ·rcases hget k r hr with ⟨rfl, rfl⟩ | ⟨hkj, hr2⟩
   ·exact new i q hq2 hij e
   ·have := (List.getElem?_inj (i := i) (j := k) (by rw [List.length_map]; exact (List.getElem?_eq_some_iff.1 hq2).1) h.gs).1 (by rw [List.getElem?_map, List.getElem?_map, hq2, hr2]; simp [e])
    omega
 ·have hsp : s ≠ p.1 := fun e => hs (by
   rw [List.mem_map]
   exact ⟨(p.1, g', c'), List.mem_iff_getElem?.2 ⟨j, by rw [List.getElem?_set_self hjl]⟩, e.symm⟩)
  rw [hfo s hsp]
  refine h.all s fun hm => hs ?_
  obtain ⟨q, hq, rfl⟩ := List.mem_map.1 hm
  obtain ⟨i, hi⟩ := List.mem_iff_getElem?.1 hq
  rw [List.mem_map]
  refine ⟨q, List.mem_iff_getElem?.2 ⟨i, ?_⟩, rfl⟩
  rw [List.getElem?_set, if_neg (fun e => hsp (by rw [← e, hj] at hi; injection hi with hi; rw [hi]))]
  exact hi
theorem StI.new {w0 w w2 w3 : World} {f f' : Int → List It} {b : Nat} {M : List Ent} (h : StI w0 w f b M) {s : Int} {y : It} {v' : Value} (hs : s ∉ M.map (·.1)) (hf : ∀ t, f' t = if t = s then [y] else f t)
  (hown : w2.ownsRow w0.heap.size 60 2 v' (0 + 1) [.int .i64 y.1, .int .i64 y.2]) (hg : w.grownBy w2 none) (hat : v'.ownBlock = none ∨ v'.ownBlock = some w.heap.size)
  (hm : MapIs Tryz.prog 61 w3 b (M.map (entV f) ++ [(.int .i64 s, v')])) (hg3 : w2.grownBy w3 (some b)) : ∃ M', StI w0 w3 f' b M' := by
 obtain ⟨g', c', rfl, hB', hlt'⟩ := own_shape1 hown
 have hgg : g' = w.heap.size := by
  rcases hat with e | e
  ·cases e
  ·exact Option.some.inj e
 have hlt : ∀ q ∈ M, w0.heap.size ≤ q.2.1 ∧ q.2.1 < w.heap.size := fun q hq => owns_lt (h.own q hq) q.2.1 rfl
 have hbel2 : Below w0.heap.size w0 w2 := h.bel.grown hg h.bel.size (fun k e => by cases e)
 have hbel3 : Below w0.heap.size w0 w3 := hbel2.grown hg3 hbel2.size (fun k e => by injection e with e; subst e; exact h.ge)
 have hfs : f' s = [y] := by rw [hf, if_pos rfl]
 have hfo : ∀ q ∈ M, f' q.1 = f q.1 := fun q hq => by
  rw [hf, if_neg]
  exact fun e => hs (List.mem_map.2 ⟨q, hq, e⟩)
 have hbl := h.map.lt
 refine ⟨M ++ [(s, g', c')], hbel3, ?_, fun q hq => ?_, fun q hq => ?_, ?_, ?_, fun t ht => ?_, h.ge⟩
 ·have e : (M ++ [(s, g', c')]).map (entV f') = M.map (entV f) ++ [(.int .i64 s, .slice (some ⟨g', 0, none⟩) (0 + 1) c')] := by
   rw [List.map_append]
   congr 1
   ·exact List.map_congr_left fun q hq => by simp only [entV, rowV, hfo q hq]
   ·simp [entV, rowV, hfs]
  rw [e]
  exact hm
 ·rcases List.mem_append.1 hq with hq | hq
  ·rw [hfo q hq]
   refine owns_kept (h.own q hq) fun k hk => ?_
   injection hk with hk
   subst hk
   have h1 := (hlt q hq).2
   obtain ⟨cur, hc⟩ := own_block_cells (h.own q hq)
   have h2 : b ≠ q.2.1 := map_not_cells h.map hc
   exact (hg3.block _ (Nat.lt_of_lt_of_le h1 hg.size) (fun e => h2 (Option.some.inj e).symm)).trans (hg.block _ h1 (fun e => by cases e))
  ·obtain rfl : q = (s, g', c') := by simpa using hq
   show w3.ownsRow _ 60 2 (.slice (some ⟨g', 0, none⟩) (f' s).length c') (f' s).length (icells (f' s))
   rw [hfs]
   refine owns_kept hown fun q hq => ?_
   injection hq with hq
   subst hq
   exact hg3.block _ hlt' fun e => by
    have e' : g' = b := Option.some.inj e
    omega
 ·rcases List.mem_append.1 hq with hq | hq
  ·rw [hfo q hq]; exact h.ne q hq
  ·obtain rfl : q = (s, g', c') := by simpa using hq
   show f' s ≠ []
   rw [hfs]
   simp
 ·rw [List.map_append, List.nodup_append]
  refine ⟨h.keys, by simp, fun a ha t ht => ?_⟩
  obtain rfl : t = s := by simpa using ht
  exact fun e => hs (e ▸ ha)
 ·rw [List.map_append, List.nodup_append]
  refine ⟨h.gs, by simp, fun a ha t ht => ?_⟩
  obtain rfl : t = g' := by simpa using ht
  obtain ⟨q, hq, rfl⟩ := List.mem_map.1 ha
  have := (hlt q hq).2
  omega
 ·rw [List.map_append, List.mem_append] at ht
  have h1 : t ∉ M.map (·.1) := fun e => ht (.inl e)
  have h2 : t ≠ s := fun e => ht (.inr (by simp [e]))
  rw [hf, if_neg h2]
  exact h.all t h1
theorem StI.mem {w0 w : World} {f : Int → List It} {b : Nat} {M : List Ent} (h : StI w0 w f b M) {p : Ent} (hp : p ∈ M) : (Value.int .i64 p.1, rowV p (f p.1)) ∈ M.map (entV f) := List.mem_map.2 ⟨p, hp, rfl⟩
theorem StI.none_ {w0 w : World} {f : Int → List It} {b : Nat} {M : List Ent} (h : StI w0 w f b M) {s : Int} (hs : s ∉ M.map (·.1)) : ∀ p ∈ M.map (entV f), p.1 ≠ .int .i64 s := fun p hp e => by
 obtain ⟨q, hq, rfl⟩ := List.mem_map.1 hp
 have e' : q.1 = s := by injection e
 exact hs (List.mem_map.2 ⟨q, hq, e'⟩)
end Go.Proofs.YticmnfmijdgmbaaGreatDoor

namespace Go.Proofs.YticmnfmijdgmbaaGreatDoor
open Go Go.RowKit Go.Lib
open X14 (It thereX behX rightX sortX stepX closeV stepV)
open Go.Maps (Keyed)
set_option linter.unusedVariables false
set_option linter.unusedSimpArgs false
def StepsP (f : Int → List It) (w : World) (e : Ending) (w' : World) : Prop := ∃ b M, e = .returned (.map (some b)) ∧ StI w w' f b M
theorem step_one {G : GD} {c : List It} {k : Nat} {x : It} {sy : Int} (hx : c[k]? = some x) (hb : behX G x = some sy) (t : Int) : stepX G (c.take (k + 1)) t = if t = sy then stepX G (c.take k) sy ++ [(x.1, x.2 + 1)] else stepX G (c.take k) t := by
 rw [X14.stepX_take hx t, hb]
 by_cases h : t = sy
 ·subst h; simp
 ·rw [if_neg h, if_neg (fun e => h (by injection e with e; exact e.symm)), List.append_nil]
theorem step_off {G : GD} {c : List It} {k : Nat} {x : It} (hx : c[k]? = some x) (hb : behX G x = none) (t : Int) : stepX G (c.take (k + 1)) t = stepX G (c.take k) t := by
 rw [X14.stepX_take hx t, hb, if_neg (by simp), List.append_nil]
theorem step_len {G : GD} {c : List It} {k : Nat} (t : Int) : (stepX G (c.take k) t).length ≤ c.length := by
 unfold X14.stepX
 rw [List.length_map]
 refine Nat.le_trans (List.length_filter_le _ _) ?_
 rw [List.length_take]; omega
theorem keep27 {w w' : World} {B n b : Nat} {v : Value} {xs : List Value} {cs : Array Value} (hg : w.grownBy w' v.ownBlock) (ho : w.ownsRow B 60 2 v n xs) (hb : w.heap[b]? = some (.cells cs 27 (0, 0))) : w'.heap[b]? = some (.cells cs 27 (0, 0)) := by
 refine (hg.block b (Array.getElem?_eq_some_iff.1 hb).1 fun e => ?_).trans hb
 rcases ho.2 with ⟨rfl, _⟩ | ⟨g, cap, cur, rfl, _, hh, _⟩
 ·cases e
 ·have e' : b = g := Option.some.inj e
  rw [← e', hb] at hh
  injection hh with hh
  cases hh
theorem keep27m {w w' : World} {b g : Nat} {k : TypeId} {L : List (Value × Value)} {cs : Array Value} (hg : w.grownBy w' (some g)) (hm : MapIs Tryz.prog k w g L) (hb : w.heap[b]? = some (.cells cs 27 (0, 0))) : w'.heap[b]? = some (.cells cs 27 (0, 0)) :=
 (hg.block b (Array.getElem?_eq_some_iff.1 hb).1 fun e => map_not_cells hm (by rw [← Option.some.inj e]; exact hb) rfl).trans hb
set_option maxRecDepth 100000 in
set_option maxHeartbeats 16000000 in
theorem steps_any {G : GD} {gv v : Value} {w : World} {c : List It} (h : Gram w gv G) (hv : validB G = true) (hi : ItemsAt w v c) (hth : ∀ x ∈ c, thereX G x = true) (hl : c.length ≤ 2000) :
  Calls Tryz.prog 61 #[gv, v] w (StepsP (stepX G c) w) := by
 have HGr := hid h
 have HV := hid hv
 have HTH := hid hth
 have HI := hid hi
 obtain ⟨vo, vc, rfl, hvn⟩ := hi.len
 obtain ⟨n, hln⟩ : ∃ n, c.length = n := ⟨_, rfl⟩
 have HLN := hid hln
 obtain ⟨tv, ov, sv, pv, tf, rv, h⟩ := h
 have hgv := h.eq
 subst hgv
 rw [hln] at HI hvn hl ⊢
 clear h hi hln hth
 obtain ⟨W1, e1⟩ : ∃ W1, w.alloc (.cells #[tv, ov, sv, pv, .int .i64 G.start] 27) = W1 := ⟨_, rfl⟩
 have hb1 : Below w.heap.size w W1 := by rw [← e1]; exact (Below.refl _ _).alloc (Nat.le_refl _) _
 have n1 : W1.heap[w.heap.size]? = some (.cells #[tv, ov, sv, pv, .int .i64 G.start] 27 (0, 0)) := by rw [← e1]; exact new_block _ _
 obtain ⟨W2, e2⟩ : ∃ W2, W1.alloc (.map #[] 0) = W2 := ⟨_, rfl⟩
 have hS0 := StI.start w W1 hb1
 have hb2 : Below W1.heap.size W1 W2 := by rw [← e2]; exact (Below.refl _ _).alloc (Nat.le_refl _) _
 rw [e2] at hS0
 have HS0 := hid hS0
 have HG0 := hid ((hb2.block _ (Array.getElem?_eq_some_iff.1 n1).1).trans n1)
 obtain ⟨b, hb⟩ : ∃ b, W1.heap.size = b := ⟨_, rfl⟩
 rw [hb] at HS0
 clear hb1 n1 hS0 hb2
 have hmm := @run_makeMap Tryz.prog
 go_enter Tryz.func61, Tryz.ntmps61
 go_wp2_with fail
 clear e1 e2
 go_loopw [7, 8, 9, 13] (fun t7 t8 t9 t13 wr => ∃ (k : Nat) (M : List Ent), k ≤ n ∧ t13 = .int .i64 (k : Int) ∧ Hid (StI w wr (stepX G (c.take k)) b M) ∧ Hid (wr.heap[w.heap.size]? = some (.cells #[tv, ov, sv, pv, .int .i64 G.start] 27 (0, 0)))) (fun _ _ _ t13 _ => n - (RowKit.intOf t13).toNat)
 case atStart => exact ⟨0, [], Nat.zero_le _, rfl, hid (HS0.out.same fun s => rfl), HG0⟩
 case round =>
  obtain ⟨k, M, hk, rfl, HS, HG⟩ := hrel
  by_cases hlt : k < n
  ·have t1 : (k : Int) < (n : Int) := by omega
   have t2 : (0 : Int) ≤ (k : Int) := by omega
   obtain ⟨x, hx⟩ : ∃ x, c[k]? = some x := ⟨_, List.getElem?_eq_getElem (by rw [HLN.out]; exact hlt)⟩
   have HX := hid hx
   have hth := HTH.out x (List.mem_of_getElem? hx)
   have hx2 : 0 ≤ x.2 ∧ x.2 ≤ 12 := by
    have h1 := X14.there_iff.1 hth
    have h2 := X14.right_le HV.out h1.1 h1.2.1
    omega
   have hwx : IntKind.i64.wrap (x.2 + 1) = x.2 + 1 := wrap_small (by omega) (by omega)
   have hszr := HS.out.bel.size
   obtain ⟨lb, lo, rfl, q0, q1⟩ := HI.out.at_ hx
   have q0 := cell_below HS.out.bel q0
   have q1 := cell_below HS.out.bel q1
   obtain ⟨wx, ex⟩ : ∃ wx, wr.alloc (.cells #[.int .i64 0, .int .i64 0] 60) = wx := ⟨_, rfl⟩
   have nx : wx.heap[wr.heap.size]? = some (.cells #[.int .i64 0, .int .i64 0] 60 (0, 0)) := by rw [← ex]; exact new_block _ _
   obtain ⟨wa, ea⟩ : ∃ wa, wx.setCell ⟨wr.heap.size, 0, none⟩ (.int .i64 x.1) = wa := ⟨_, rfl⟩
   obtain ⟨wb, eb⟩ : ∃ wb, wa.setCell ⟨wr.heap.size, 1, none⟩ (.int .i64 x.2) = wb := ⟨_, rfl⟩
   have na : wa.heap[wr.heap.size]? = some (.cells #[.int .i64 x.1, .int .i64 0] 60 (0, 0)) := by rw [← ea]; exact heap_setCell_same _ _ 0 _ 60 _ nx
   have nb : wb.heap[wr.heap.size]? = some (.cells #[.int .i64 x.1, .int .i64 x.2] 60 (0, 0)) := by rw [← eb]; exact heap_setCell_same _ _ 1 _ 60 _ na
   have hbb : Below wr.heap.size wr wb := by
    rw [← eb, ← ea, ← ex]
    exact ((((Below.refl _ _).alloc (Nat.le_refl _) _).setCell (Nat.le_refl _) _).setCell (Nat.le_refl _) _)
   have c0 : wx.cell? ⟨wr.heap.size, 0, none⟩ = some (.int .i64 0) := Lib.cell_of_heap nx 0
   have f0 := Lib.frozen_of_heap nx 0
   have c1 : wa.cell? ⟨wr.heap.size, 1, none⟩ = some (.int .i64 0) := Lib.cell_of_heap na 1
   have f1 := Lib.frozen_of_heap na 1
   have d0 : wb.cell? ⟨wr.heap.size, 0, none⟩ = some (.int .i64 x.1) := Lib.cell_of_heap nb 0
   have d1 : wb.cell? ⟨wr.heap.size, 1, none⟩ = some (.int .i64 x.2) := Lib.cell_of_heap nb 1
   have hGb := (hbb.block _ (Array.getElem?_eq_some_iff.1 HG.out).1).trans HG.out
   have b0 : wb.cell? ⟨w.heap.size, 0, none⟩ = some tv := Lib.cell_of_heap hGb 0
   have b1 : wb.cell? ⟨w.heap.size, 1, none⟩ = some ov := Lib.cell_of_heap hGb 1
   have b2 : wb.cell? ⟨w.heap.size, 2, none⟩ = some sv := Lib.cell_of_heap hGb 2
   have b3 : wb.cell? ⟨w.heap.size, 3, none⟩ = some pv := Lib.cell_of_heap hGb 3
   have b4 : wb.cell? ⟨w.heap.size, 4, none⟩ = some (.int .i64 G.start) := Lib.cell_of_heap hGb 4
   have HSb := hid (HS.out.below hbb)
   have hKB := behind_any (HGr.out.below HSb.out.bel) HV.out x hth
   obtain ⟨sy, hsy⟩ : ∃ sy, (behX G x).getD 0 = sy := ⟨_, rfl⟩
   obtain ⟨ok, hok⟩ : ∃ ok, (behX G x).isSome = ok := ⟨_, rfl⟩
   unfold BehP itV at hKB
   rw [hsy, hok] at hKB
   have HBX := hid (show behX G x = if ok = true then some sy else none from by
    rw [← hsy, ← hok]
    cases behX G x <;> rfl)
   have KB := hid hKB
   have HNB := hid nb
   have HGB := hid hGb
   have lnb := (Array.getElem?_eq_some_iff.1 nb).1
   clear hx hth nx na nb hbb hGb hKB hsy hok
   go_wp2_with fail
   refine KB.out.mono ?_
   rintro e w5 ⟨rfl, hb5⟩
   have HS5 := hid (HSb.out.below hb5)
   have HG5 := hid ((hb5.block _ (Array.getElem?_eq_some_iff.1 HGB.out).1).trans HGB.out)
   have n5 := (hb5.block _ lnb).trans HNB.out
   have d0 : w5.cell? ⟨wr.heap.size, 0, none⟩ = some (.int .i64 x.1) := Lib.cell_of_heap n5 0
   have d1 : w5.cell? ⟨wr.heap.size, 1, none⟩ = some (.int .i64 x.2) := Lib.cell_of_heap n5 1
   clear hb5 KB HSb HGB HNB n5 c0 f0 c1 f1 b0 b1 b2 b3 b4 ex ea eb q0 q1 HS HG
   cases ok
   ·have HS6 := hid (HS5.out.same (step_off HX.out HBX.out))
    go_wp2_with fail
    refine ⟨⟨k + 1, M, by omega, rfl, HS6, HG5⟩, ?_⟩
    show n - ((k : Int) + 1).toNat < n - ((k : Int)).toNat
    omega
   ·have hbx : behX G x = some sy := HBX.out
    have hrg := beh_range HV.out hbx
    have hkey := key29 (s := sy) (by omega) (by omega)
    have HF := hid (step_one HX.out hbx)
    obtain ⟨F, hF⟩ : ∃ F, stepX G (c.take k) = F := ⟨_, rfl⟩
    have hFl : ∀ t, (F t).length ≤ 2000 := fun t => by rw [← hF]; exact Nat.le_trans (step_len t) (by rw [HLN.out]; exact hl)
    rw [hF] at HS5 HF
    obtain ⟨wq, eq⟩ : ∃ wq, w5.alloc (.cells #[.int .i64 x.1, .int .i64 (x.2 + 1)] 60) = wq := ⟨_, rfl⟩
    have hbq : Below w5.heap.size w5 wq := by rw [← eq]; exact (Below.refl _ _).alloc (Nat.le_refl _) _
    have HNQ := hid (show wq.heap[w5.heap.size]? = some (.cells #[.int .i64 x.1, .int .i64 (x.2 + 1)] 60 (0, 0)) from by rw [← eq]; exact new_block _ _)
    have HSq := hid (HS5.out.below hbq)
    have HGq := hid ((hbq.block _ (Array.getElem?_eq_some_iff.1 HG5.out).1).trans HG5.out)
    have hdq := HSq.out.bel.size
    clear hbq hbx hF
    by_cases hin : sy ∈ M.map (·.1)
    ·obtain ⟨p, hpM, hpe⟩ := List.mem_map.1 hin
     obtain ⟨j, hj⟩ := List.mem_iff_getElem?.1 hpM
     subst hpe
     have HP := hid (And.intro hpM hj)
     have HME := hid (HS5.out.mem hpM)
     have hpl := hFl p.1
     obtain ⟨ln, hln2⟩ : ∃ ln, (F p.1).length = ln := ⟨_, rfl⟩
     have HLE := hid hln2
     unfold rowV at HME
     rw [hln2] at HME hpl
     have HOq := HSq.out.own p hpM
     unfold rowV at HOq
     rw [hln2] at HOq
     have HOq := hid HOq
     clear hin hpM hj hln2 hFl
     go_wp2_with (first | (at_lookup; refine wpList_look_some1 rfl (.tmp 26) (.tmp 27) 124 rfl keyed29 Tryz.underlying124 rfl HS5.out.map (.int .i64 p.1) (.slice (some ⟨p.2.1, 0, none⟩) ln p.2.2) (.int .i64 p.1) rfl hkey HME.out ?_) | (at_builtin; refine wpList_push37 rfl (.tmp 28) (.tmp 35) rfl w.heap.size (.slice (some ⟨p.2.1, 0, none⟩) ln p.2.2) ln (icells (F p.1)) rfl HOq.out w5.heap.size rfl x.1 (x.2 + 1) HNQ.out (by omega) hdq ?_))
     intro v7 w7 hown7 hg7 hat7
     have hmk : MapIs Tryz.prog 61 w7 b (M.map (entV F)) := HSq.out.map.kept (hg7.block b HSq.out.map.lt (fun e => by
      obtain ⟨cur, hc⟩ := own_block_cells HOq.out
      exact map_not_cells HSq.out.map hc (Option.some.inj e)))
     have HMK := hid hmk
     have HG7 := hid (keep27 hg7 HOq.out HGq.out)
     have HO7 := hid (And.intro hown7 (And.intro hg7 hat7))
     have HU := hid (show (M.map (entV F))[j]? = some (.int .i64 p.1, rowV p (F p.1)) from by rw [List.getElem?_map, HP.out.2]; rfl)
     clear hmk hown7 hg7 hat7 eq d0 d1
     go_wp2_with (at_mapUpdate; refine wpList_change rfl (.tmp 24) (.tmp 25) (.tmp 36) 124 (.inl rfl) keyed29 Tryz.underlying124 rfl HMK.out (.int .i64 p.1) v7 (.int .i64 p.1) rfl rfl hkey j (rowV p (F p.1)) HU.out ?_)
     intro w8 hm8 hg8
     obtain ⟨M', hM'⟩ := HSq.out.more (y := (x.1, x.2 + 1)) (f' := stepX G (c.take (k + 1))) HP.out.2 HF.out (by rw [HLE.out]; exact HO7.out.1) HO7.out.2.1 HO7.out.2.2 hm8 hg8
     have HS8 := hid hM'
     have HG8 := hid (keep27m hg8 HMK.out HG7.out)
     clear hm8 hg8 hM'
     go_wp2_with fail
     refine ⟨⟨k + 1, M', by omega, rfl, HS8, HG8⟩, ?_⟩
     show n - ((k : Int) + 1).toNat < n - ((k : Int)).toNat
     omega
    ·have HIN := hid hin
     have HNN := hid (HS5.out.none_ hin)
     have HNL := hid (World.ownsRow_nil wq w.heap.size 60 2)
     clear hin hFl
     go_wp2_with (first | (at_lookup; refine wpList_look_none1 rfl (.tmp 26) (.tmp 27) 124 rfl keyed29 Tryz.underlying124 rfl HS5.out.map (.int .i64 sy) (.slice none 0 0) (.int .i64 sy) rfl hkey (zero28 _) HNN.out ?_) | (at_builtin; refine wpList_push37 rfl (.tmp 28) (.tmp 35) rfl w.heap.size (.slice none 0 0) 0 [] rfl HNL.out w5.heap.size rfl x.1 (x.2 + 1) HNQ.out (by omega) hdq ?_))
     intro v7 w7 hown7 hg7 hat7
     have hmk : MapIs Tryz.prog 61 w7 b (M.map (entV F)) := HSq.out.map.kept (hg7.block b HSq.out.map.lt (fun e => by cases e))
     have HMK := hid hmk
     have HG7 := hid (keep27 hg7 HNL.out HGq.out)
     have HO7 := hid (And.intro hown7 (And.intro hg7 hat7))
     have HNN := hid (HSq.out.none_ HIN.out)
     clear hmk hown7 hg7 hat7 eq d0 d1
     go_wp2_with (at_mapUpdate; refine wpList_put rfl (.tmp 24) (.tmp 25) (.tmp 36) 124 (.inl rfl) keyed29 Tryz.underlying124 rfl HMK.out (.int .i64 sy) v7 (.int .i64 sy) rfl rfl hkey HNN.out ?_)
     intro w8 hm8 hg8
     have HF2 := hid (show ∀ t, stepX G (c.take (k + 1)) t = if t = sy then [(x.1, x.2 + 1)] else F t from fun t => by rw [HF.out t, HSq.out.all sy HIN.out, List.nil_append])
     obtain ⟨M', hM'⟩ := HSq.out.new (y := (x.1, x.2 + 1)) HIN.out HF2.out HO7.out.1 HO7.out.2.1 HO7.out.2.2 hm8 hg8
     have HS8 := hid hM'
     have HG8 := hid (keep27m hg8 HMK.out HG7.out)
     clear hm8 hg8 hM'
     go_wp2_with fail
     refine ⟨⟨k + 1, M', by omega, rfl, HS8, HG8⟩, ?_⟩
     show n - ((k : Int) + 1).toNat < n - ((k : Int)).toNat
     omega
  ·have t1 : ¬ (k : Int) < (n : Int) := by omega
   have hkn : k = n := by omega
   have HS9 := hid (show StI w wr (stepX G c) b M from by
    have := HS.out
    rw [hkn, ← HLN.out, List.take_length] at this
    exact this)
   clear hkn
   go_wp2_with fail
   go_ret
   exact ⟨b, M, rfl, HS9.out⟩
end Go.Proofs.YticmnfmijdgmbaaGreatDoor

namespace Go.Proofs.YticmnfmijdgmbaaGreatDoor
open Go Go.RowKit Go.Lib
open X14 (It numX)
open Go.Maps (Keyed)
set_option linter.unusedVariables false
set_option linter.unusedSimpArgs false
theorem info28 : (Tryz.prog.info? 45).map (fun i => (i.zero, i.size, i.bytes)) = some (some (.slice none 0 0), 1, 24) := by kernel_rfl
theorem info58 : (Tryz.prog.info? 43).map (fun i => (i.zero, i.size, i.bytes)) = some (some (.slice none 0 0), 1, 24) := by kernel_rfl
theorem info3 : (Tryz.prog.info? 3).map (fun i => (i.zero, i.size, i.bytes)) = some (some (.int .i64 0), 1, 8) := by kernel_rfl
theorem wpList_push1 {ops : Array Oper} {rest : List Oper} {o : Oper} {a : Act} {w : World} {Q : Exit → Act → World → Prop} (hgd : o.guard = none) (s x : Operand) (t e : TypeId) (ho : o.op = .call { callee := .builtin .append, args := #[s, x], argTypes := #[t, t] })
  (z : Value) (bytes : Nat) (ht : Tryz.prog.underlying t = some (.slice e)) (hinfo : (Tryz.prog.info? e).map (fun i => (i.zero, i.size, i.bytes)) = some (some z, 1, bytes)) (hz1 : z.cells.size = 1) (hby : bytes ≤ 24)
  (base : Nat) (v : Value) (xs : List Value) (hs : a.eval s = v) (hown : w.ownsRow base e 1 v xs.length xs) (g : Nat) (hx : a.eval x = .slice (some ⟨g, 0, none⟩) 1 1) (q : Value) (hb : w.heap[g]? = some (.cells #[q] e (0, 0))) (hq : q.oneCell' = true) (hn : xs.length ≤ 1000000) (hbase : base ≤ w.heap.size)
  (h : ∀ v' w', w'.ownsRow base e 1 v' (xs ++ [q]).length (xs ++ [q]) → w.grownBy w' v.ownBlock → (v'.ownBlock = v.ownBlock ∨ v'.ownBlock = some w.heap.size) → wpList Tryz.prog ops Q rest (a.put o.dst v') w') : wpList Tryz.prog ops Q (o :: rest) a w := by
 obtain ⟨i, hi, h0, h1, h2⟩ := info_parts hinfo
 refine wpList_append_own_at w hgd s x t ho base e i z 1 bytes ht hi h0 h1 h2 hz1 (by decide) v xs.length xs hs hown ⟨g, 0, none⟩ 1 1 [q] hx rfl (fun j u hj => ?_) (fun u hu => ?_) (by unfold maxLen; omega) ?_ hbase (fun v' w' a1 a2 _ a4 => h v' w' (by rw [List.length_append]; exact a1) a2 a4)
 ·rw [add_one_cell, Nat.zero_add, Lib.cell_of_heap hb, ← hj]
  simp
 ·obtain rfl : u = q := by simpa using hu
  exact hq
 ·have : (xs.length + 1) * bytes ≤ (xs.length + 1) * 24 := Nat.mul_le_mul_left _ hby
  omega
abbrev KR := Nat × Nat × List It
def kval (q : KR) : Value := .slice (some ⟨q.1, 0, none⟩) q.2.2.length q.2.1
def kers (K : List KR) : List (List It) := K.map (·.2.2)
abbrev NR := Nat × Nat × List Int
def nval (q : NR) : Value := .slice (some ⟨q.1, 0, none⟩) q.2.2.length q.2.1
def nxts (N : List NR) : List (List Int) := N.map (·.2.2)
def zints (l : List Int) : List Value := l.map fun x => .int .i64 x
def IntH (w : World) (g : Nat) (l : List Int) : Prop := ∀ i x, l[i]? = some x → w.cell? ⟨g, i, none⟩ = some (.int .i64 x)
def frozI (F : List (Nat × List It)) : Item where
 bl := F.map (·.1)
 ok w := ∀ q ∈ F, RowH w q.1 q.2
 kept h hw q hq := (hw q hq).kept (h q.1 (List.mem_map.2 ⟨q, hq, rfl⟩))
def nfI (N : List NR) : Item where
 bl := N.map (·.1)
 ok w := ∀ q ∈ N, IntH w q.1 q.2.2
 kept {w w'} h hw q hq i x hi := (World.cell?_of_block (a := ⟨q.1, i, none⟩) (h q.1 (List.mem_map.2 ⟨q, hq, rfl⟩))).trans (hw q hq i x hi)
def keyV (k : List It) : Value := .string ⟨(keyI k).toArray⟩
theorem keyV_inj {a b : List It} (h : keyV a = keyV b) : a = b := by
 unfold keyV at h
 injection h with h
 injection h with h
 have := congrArg Array.toList h
 exact keyI_inj (by simpa using this)
theorem key9 {k : List It} (hr : ∀ x ∈ k, inR x) (hl : k.length ≤ 1000000) : keyOf Tryz.prog 9 (keyV k) = some (.string (keyI k)) :=
 WideMaps.keyOf_string_mk Tryz.underlying9 (s := ⟨(keyI k).toArray⟩) (by
  show (keyI k).toArray.size ≤ maxLen
  rw [List.size_toArray]
  have := keyI_len k hr
  unfold maxLen; omega)
def kmap (L : List (List It)) : List (Value × Value) := L.zipIdx.map fun p => (keyV p.1, .int .i64 (p.2 : Int))
theorem kmap_some {L : List (List It)} {k : List It} {i : Nat} (h : L[i]? = some k) : (keyV k, Value.int .i64 (i : Int)) ∈ kmap L := by
 unfold kmap
 exact List.mem_map.2 ⟨(k, i), by rw [List.mem_zipIdx_iff_getElem?]; exact h, rfl⟩
theorem kmap_none {L : List (List It)} {k : List It} (h : k ∉ L) : ∀ p ∈ kmap L, p.1 ≠ keyV k := by
 intro p hp he
 obtain ⟨q, hq, rfl⟩ := List.mem_map.1 hp
 rw [List.mem_zipIdx_iff_getElem?] at hq
 have : q.1 = k := keyV_inj he
 exact h (this ▸ List.mem_of_getElem? hq)
theorem kmap_push (L : List (List It)) (k : List It) : kmap (L ++ [k]) = kmap L ++ [(keyV k, .int .i64 (L.length : Int))] := by
 unfold kmap
 rw [List.zipIdx_append, List.map_append]
 simp
theorem zero3 (w : World) : (zeroValue 3).run Tryz.prog w = .ok (.int .i64 0) w := by kernel_rfl
def bItems (B bA bN bM bG bR : Nat) (gc : Array Value) (kv nv : Value) (K : List KR) (N : List NR) (F : List (Nat × List It)) (rv : Value) (xs : List Value) (mi : Item) : List Item :=
 [blkI bA (.cells #[kv, nv] 55 (0, 0)), blkI bN (.cells #[.map (some bM)] 121 (0, 0)), mapI 9 bM (kmap (kers K)), rowI B 45 kv (K.map kval), rowI B 43 nv (N.map nval), frozI F, nfI N, rowI B 3 rv xs, blkI bG (.cells gc 27 (0, 0)), blkI bR (.cells #[.slice none 0 0, .slice none 0 0] 55 (0, 0)), mi]
def KerAt (F : List (Nat × List It)) (v : Value) (k : List It) : Prop := (v = .slice none 0 0 ∧ k = []) ∨ ∃ g c, v = .slice (some ⟨g, 0, none⟩) k.length c ∧ k ≠ [] ∧ (g, k) ∈ F
theorem KerAt.items {F : List (Nat × List It)} {v : Value} {k : List It} {w : World} (h : KerAt F v k) (hF : (frozI F).ok w) (hl : k.length ≤ 9223372036854775807) : ItemsAt w v k := by
 rcases h with ⟨rfl, rfl⟩ | ⟨g, c, rfl, _, h2⟩
 ·exact items_nil w
 ·exact rowH_items (hF _ h2) hl
structure BF (B : Nat) (W w : World) (bA bN bM bG bR : Nat) (gc : Array Value) (kv nv : Value) (K : List KR) (N : List NR) (F : List (Nat × List It)) (rv : Value) (xs : List Value) (mi : Item) : Prop where
 foot : Foot B W w (bItems B bA bN bM bG bR gc kv nv K N F rv xs mi)
 inF : ∀ q ∈ K, (q.1, q.2.2) ∈ F
section
variable {B : Nat} {W w w' : World} {bA bN bM bG bR : Nat} {gc : Array Value} {kv nv : Value} {K : List KR} {N : List NR} {F : List (Nat × List It)} {rv : Value} {xs : List Value} {mi : Item}
theorem BF.below (h : BF B W w bA bN bM bG bR gc kv nv K N F rv xs mi) (hb : Below w.heap.size w w') : BF B W w' bA bN bM bG bR gc kv nv K N F rv xs mi := ⟨h.foot.below hb, h.inF⟩
theorem BF.boxA (h : BF B W w bA bN bM bG bR gc kv nv K N F rv xs mi) : w.heap[bA]? = some (.cells #[kv, nv] 55 (0, 0)) := h.foot.ok 0 _ rfl
theorem BF.boxN (h : BF B W w bA bN bM bG bR gc kv nv K N F rv xs mi) : w.heap[bN]? = some (.cells #[.map (some bM)] 121 (0, 0)) := h.foot.ok 1 _ rfl
theorem BF.map_ (h : BF B W w bA bN bM bG bR gc kv nv K N F rv xs mi) : MapIs Tryz.prog 9 w bM (kmap (kers K)) := h.foot.ok 2 _ rfl
theorem BF.rowK (h : BF B W w bA bN bM bG bR gc kv nv K N F rv xs mi) : w.ownsRow B 45 1 kv (K.map kval).length (K.map kval) := h.foot.ok 3 _ rfl
theorem BF.rowN (h : BF B W w bA bN bM bG bR gc kv nv K N F rv xs mi) : w.ownsRow B 43 1 nv (N.map nval).length (N.map nval) := h.foot.ok 4 _ rfl
theorem BF.froz (h : BF B W w bA bN bM bG bR gc kv nv K N F rv xs mi) : (frozI F).ok w := h.foot.ok 5 _ rfl
theorem BF.nf (h : BF B W w bA bN bM bG bR gc kv nv K N F rv xs mi) : (nfI N).ok w := h.foot.ok 6 _ rfl
theorem BF.row (h : BF B W w bA bN bM bG bR gc kv nv K N F rv xs mi) : w.ownsRow B 3 1 rv xs.length xs := h.foot.ok 7 _ rfl
theorem BF.boxG (h : BF B W w bA bN bM bG bR gc kv nv K N F rv xs mi) : w.heap[bG]? = some (.cells gc 27 (0, 0)) := h.foot.ok 8 _ rfl
theorem BF.boxR (h : BF B W w bA bN bM bG bR gc kv nv K N F rv xs mi) : w.heap[bR]? = some (.cells #[.slice none 0 0, .slice none 0 0] 55 (0, 0)) := h.foot.ok 9 _ rfl
theorem BF.mi_ (h : BF B W w bA bN bM bG bR gc kv nv K N F rv xs mi) : mi.ok w := h.foot.ok 10 _ rfl
theorem BF.bel (h : BF B W w bA bN bM bG bR gc kv nv K N F rv xs mi) : Below B W w := h.foot.bel
theorem BF.size (h : BF B W w bA bN bM bG bR gc kv nv K N F rv xs mi) : B ≤ w.heap.size := Nat.le_trans h.foot.le h.foot.bel.size
end
end Go.Proofs.YticmnfmijdgmbaaGreatDoor
